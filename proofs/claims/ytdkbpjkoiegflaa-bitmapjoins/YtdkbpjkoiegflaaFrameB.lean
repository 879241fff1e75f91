/- The frame of a law's proof, further: rows of bools that came in. -/
import Derived.Test.YtdkbpjkoiegflaaFrame
import Derived.Deep.Grids
namespace Go.Proofs.Ytdkbpjkoiegflaa
open Go.ChangeShapes Go.WideShapes Go.ChangeAt Go.RowKit

section
variable {H : Type} {enc : TypeId × Value → H} {w : World}
theorem isRow_bts {a : Option Addr} {len cap : Nat} {zs : List Int} (h : IsRow .u8 w a len cap zs) : ∃ l : List UInt8, Bts w 0 w.heap.size a len l ∧ len ≤ cap := by
  obtain ⟨l, h1, h2, _⟩ := argB h
  exact ⟨l, h1, h2⟩
theorem bools_of {t e : TypeId} {fuel : Nat} {cs : List Value} {x : DataW H × List MemPlace} (ht : Try.prog.underlying t = some (.slice e)) (he : Try.prog.underlying e = some .bool) (hc : Try.prog.cellsOf e = 1)
    (h : DataW.trod enc Try.prog w 0 (fun _ => true) true fuel t cs = some x) : ∃ (a : Option Addr) (len cap : Nat) (ks : List Bool), cs = [.slice a len cap] ∧ len ≤ cap ∧ Lst w 0 w.heap.size a len (ks.map Value.bool) := by
  rcases Deep.open_bools ht he hc h with ⟨hcs, _⟩ | ⟨a, len, cap, B, hcs, _, hl, _, _, hcell⟩
  · exact ⟨none, 0, 0, [], hcs, Nat.le_refl _, ⟨rfl, fun h => absurd h (by decide)⟩⟩
  · refine ⟨some a, len, cap, ((List.range cap).map B).take len, hcs, hl, ?_⟩
    rw [List.map_take]
    refine lst_of hl (by simp) (fun h0 => ?_) fun i hi => ?_
    · have := hcell 0 h0
      rw [add_zero_] at this
      exact block_lt this
    · simp at hi
      rw [hcell i hi]
      simp [hi]
theorem boolsArg {t e : TypeId} {fuel : Nat} {a : Option Addr} {len cap : Nat} {x : DataW H × List MemPlace} (ht : Try.prog.underlying t = some (.slice e)) (he : Try.prog.underlying e = some .bool) (hc : Try.prog.cellsOf e = 1)
    (h : DataW.trod enc Try.prog w 0 (fun _ => true) true fuel t (Value.slice a len cap).cells.toList = some x) : ∃ ks : List Bool, Lst w 0 w.heap.size a len (ks.map Value.bool) := by
  obtain ⟨a', l', c', ks, hcs, _, hl⟩ := bools_of ht he hc h
  simp [Value.cells] at hcs
  obtain ⟨rfl, rfl, rfl⟩ := hcs
  exact ⟨ks, hl⟩
theorem boolsArgC {t e : TypeId} {fuel : Nat} {a : Option Addr} {len cap : Nat} {x : DataW H × List MemPlace} (ht : Try.prog.underlying t = some (.slice e)) (he : Try.prog.underlying e = some .bool) (hc : Try.prog.cellsOf e = 1)
    (h : DataW.trod enc Try.prog w 0 (fun _ => true) true fuel t (Value.slice a len cap).cells.toList = some x) : ∃ ks : List Bool, Lst w 0 w.heap.size a len (ks.map Value.bool) ∧ len ≤ cap := by
  obtain ⟨a', l', c', ks, hcs, h2, hl⟩ := bools_of ht he hc h
  simp [Value.cells] at hcs
  obtain ⟨rfl, rfl, rfl⟩ := hcs
  exact ⟨ks, hl, h2⟩
end
end Go.Proofs.Ytdkbpjkoiegflaa
