/- The frame of a law's proof, further: rows of bools, and rows of the scripts' operations, that came in. -/
import Derived.Test.YtadhbjekbfdpiaaGreatFrame
import Derived.Test.YtadhbjekbfdpiaaGreatDvC
import Derived.Deep.Grids
namespace Go.Proofs.YtadhbjekbfdpiaaGreat
open Go.ChangeShapes Go.WideShapes Go.ChangeAt Go.RowKit

/-- An operation of a script, by its parts. -/
structure OpV where
  kind : Int
  i : Int
  BA : Option Addr
  Bn : Nat
  Bc : Nat
  l : List UInt8
  KA : Option Addr
  Kn : Nat
  Kc : Nat
  ks : List Bool
def OpV.cells (o : OpV) : List Value := [.int .i64 o.kind, .int .i64 o.i, .slice o.BA o.Bn o.Bc, .slice o.KA o.Kn o.Kc]
structure OpV.ok (o : OpV) (w : World) (hi : Nat) : Prop where
  b : Bts w 0 hi o.BA o.Bn o.l
  bc : o.Bn ≤ o.Bc
  k : Lst w 0 hi o.KA o.Kn (o.ks.map .bool)
  k1 : -9223372036854775808 ≤ o.kind ∧ o.kind ≤ 9223372036854775807
  i1 : -9223372036854775808 ≤ o.i ∧ o.i ≤ 9223372036854775807
  Kb : ∀ u, o.Kn ≠ 0 → o.KA.map (·.block) = some u → u < hi
/-- A row of n operations at A, all that it holds in blocks below hi. -/
def Ops (w : World) (hi : Nat) (A : Option Addr) (n : Nat) : Prop := ∀ j, j < n → ∃ b off o, A = some ⟨b, off, none⟩ ∧ b < hi ∧ w.rangeAt b (off + j * 4) (OpV.cells o) ∧ o.ok w hi
theorem OpV.ok.below {o : OpV} {w w' : World} {hi : Nat} (h : o.ok w hi) (hb : Below hi w w') : o.ok w' hi := ⟨h.b.below hb (Nat.le_refl _), h.bc, h.k.below hb (Nat.le_refl _), h.k1, h.i1, h.Kb⟩
theorem Ops.below {w w' : World} {hi n : Nat} {A : Option Addr} (h : Ops w hi A n) (hb : Below hi w w') : Ops w' hi A n := fun j hj => by
  obtain ⟨b, off, o, hA, hlt, hr, ho⟩ := h j hj
  exact ⟨b, off, o, hA, hlt, rangeAt_keep hr (hb.block b hlt), ho.below hb⟩

section
variable {H : Type} {enc : TypeId × Value → H} {w : World}
theorem isRow_bts {a : Option Addr} {len cap : Nat} {zs : List Int} (h : IsRow .u8 w a len cap zs) : ∃ l : List UInt8, Bts w 0 w.heap.size a len l ∧ len ≤ cap := by
  obtain ⟨l, h1, h2, _⟩ := argB h
  exact ⟨l, h1, h2⟩
theorem bools_of {t e : TypeId} {fuel : Nat} {cs : List Value} {x : DataW H × List MemPlace} (ht : Tryz.prog.underlying t = some (.slice e)) (he : Tryz.prog.underlying e = some .bool) (hc : Tryz.prog.cellsOf e = 1)
    (h : DataW.trod enc Tryz.prog w 0 (fun _ => true) true fuel t cs = some x) : ∃ (a : Option Addr) (len cap : Nat) (ks : List Bool), cs = [.slice a len cap] ∧ len ≤ cap ∧ Lst w 0 w.heap.size a len (ks.map Value.bool) := by
  rcases Deep.open_bools ht he hc h with ⟨hcs, _⟩ | ⟨a, len, cap, B, hcs, _, hl, _, _, hcell⟩
  · exact ⟨none, 0, 0, [], hcs, Nat.le_refl _, ⟨rfl, fun h => absurd h (by decide)⟩⟩
  · refine ⟨some a, len, cap, ((List.range cap).map B).take len, hcs, hl, ?_⟩
    rw [List.map_take]
    refine lst_of hl (by simp) (fun h0 => ?_) fun i hi => ?_
    · have := hcell 0 h0
      rw [add_zero_] at this
      exact block_lt this
    · simp at hi
      rw [hcell i hi]
      simp [hi]
theorem boolsArg {t e : TypeId} {fuel : Nat} {a : Option Addr} {len cap : Nat} {x : DataW H × List MemPlace} (ht : Tryz.prog.underlying t = some (.slice e)) (he : Tryz.prog.underlying e = some .bool) (hc : Tryz.prog.cellsOf e = 1)
    (h : DataW.trod enc Tryz.prog w 0 (fun _ => true) true fuel t (Value.slice a len cap).cells.toList = some x) : ∃ ks : List Bool, Lst w 0 w.heap.size a len (ks.map Value.bool) := by
  obtain ⟨a', l', c', ks, hcs, _, hl⟩ := bools_of ht he hc h
  simp [Value.cells] at hcs
  obtain ⟨rfl, rfl, rfl⟩ := hcs
  exact ⟨ks, hl⟩
end
end Go.Proofs.YtadhbjekbfdpiaaGreat
