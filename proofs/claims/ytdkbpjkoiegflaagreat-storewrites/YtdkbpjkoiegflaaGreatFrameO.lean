/- The frame of a law's proof, further: rows of bools, and rows of the scripts' operations, that came in. -/
import Derived.Test.YtdkbpjkoiegflaaGreatFrame
import Derived.Test.YtdkbpjkoiegflaaGreatDvC
import Derived.Deep.Grids
namespace Go.Proofs.YtdkbpjkoiegflaaGreat
open Go.ChangeShapes Go.WideShapes Go.ChangeAt Go.RowKit

/-- An operation of a script, by its parts. -/
structure OpV where
  kind : Int
  i : Int
  BA : Option Addr
  Bn : Nat
  Bc : Nat
  l : List UInt8
  KA : Option Addr
  Kn : Nat
  Kc : Nat
  ks : List Bool
def OpV.cells (o : OpV) : List Value := [.int .i64 o.kind, .int .i64 o.i, .slice o.BA o.Bn o.Bc, .slice o.KA o.Kn o.Kc]
structure OpV.ok (o : OpV) (w : World) (hi : Nat) : Prop where
  b : Bts w 0 hi o.BA o.Bn o.l
  bc : o.Bn ≤ o.Bc
  k : Lst w 0 hi o.KA o.Kn (o.ks.map .bool)
  k1 : -9223372036854775808 ≤ o.kind ∧ o.kind ≤ 9223372036854775807
  i1 : -9223372036854775808 ≤ o.i ∧ o.i ≤ 9223372036854775807
  Kb : ∀ u, o.Kn ≠ 0 → o.KA.map (·.block) = some u → u < hi
/-- A row of n operations at A, all that it holds in blocks below hi. -/
def Ops (w : World) (hi : Nat) (A : Option Addr) (n : Nat) : Prop := ∀ j, j < n → ∃ b off o, A = some ⟨b, off, none⟩ ∧ b < hi ∧ w.rangeAt b (off + j * 4) (OpV.cells o) ∧ o.ok w hi
theorem OpV.ok.below {o : OpV} {w w' : World} {hi : Nat} (h : o.ok w hi) (hb : Below hi w w') : o.ok w' hi := ⟨h.b.below hb (Nat.le_refl _), h.bc, h.k.below hb (Nat.le_refl _), h.k1, h.i1, h.Kb⟩
theorem Ops.below {w w' : World} {hi n : Nat} {A : Option Addr} (h : Ops w hi A n) (hb : Below hi w w') : Ops w' hi A n := fun j hj => by
  obtain ⟨b, off, o, hA, hlt, hr, ho⟩ := h j hj
  exact ⟨b, off, o, hA, hlt, rangeAt_keep hr (hb.block b hlt), ho.below hb⟩

section
variable {H : Type} {enc : TypeId × Value → H} {w : World}
end
end Go.Proofs.YtdkbpjkoiegflaaGreat
