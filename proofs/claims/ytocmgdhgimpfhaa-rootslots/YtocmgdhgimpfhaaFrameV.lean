/- The frame of a law's proof, further: keys, rows of keys, rows of rows of bytes, the scripts' operations on a vault, that came in. -/
import Derived.Test.YtocmgdhgimpfhaaFrameK
import Derived.Test.YtocmgdhgimpfhaaVtFirst
namespace Go.Proofs.Ytocmgdhgimpfhaa
open Go.ChangeShapes Go.WideShapes Go.ChangeAt Go.RowKit

/-- An operation of a script, by its parts. -/
structure OpW where
  kind : Int
  k : Ky
  b : List UInt8
  A : Option Addr
  n : Nat
  c : Nat
  p : List UInt8
  H : Nat
def OpW.cells (o : OpW) : List Value := [.int .i64 o.kind, .int .i64 o.k.t, .int .i64 o.k.c, .int .i64 o.k.e, .string (str o.b), .slice o.A o.n o.c, .int .u64 (o.H : Int)]
structure OpW.ok (o : OpW) (w : World) (hi : Nat) : Prop where
  p : Bts w 0 hi o.A o.n o.p
  pc : o.n ≤ o.c
  k1 : -9223372036854775808 ≤ o.kind ∧ o.kind ≤ 9223372036854775807
  k : o.k.wf
  b : o.b.length ≤ maxLen
  H : o.H < 18446744073709551616
  pm : o.n ≤ maxLen
theorem OpW.ok.below {o : OpW} {w w' : World} {hi : Nat} (h : o.ok w hi) (hb : Below hi w w') : o.ok w' hi := ⟨h.p.below hb (Nat.le_refl _), h.pc, h.k1, h.k, h.b, h.H, h.pm⟩
/-- A row of n operations at A, all that it holds in blocks below hi. -/
def OpsW (w : World) (hi : Nat) (A : Option Addr) (n : Nat) : Prop := ∀ j, j < n → ∃ b off o, A = some ⟨b, off, none⟩ ∧ b < hi ∧ w.rangeAt b (off + j * 7) (OpW.cells o) ∧ o.ok w hi
/-- A row of keys. -/
def KeysW (w : World) (hi : Nat) (A : Option Addr) (n : Nat) : Prop := ∀ j, j < n → ∃ b off k, A = some ⟨b, off, none⟩ ∧ b < hi ∧ w.rangeAt b (off + j * 3) (Ky.cells k) ∧ k.wf
/-- A row of rows of bytes. -/
def RowsW (w : World) (hi : Nat) (A : Option Addr) (n : Nat) : Prop := ∀ j, j < n → ∃ b off B m c l, A = some ⟨b, off, none⟩ ∧ b < hi ∧ w.cell? ⟨b, off + j, none⟩ = some (.slice B m c) ∧ Bts w 0 hi B m l ∧ m ≤ c ∧ m ≤ maxLen

section
variable {H : Type} {enc : TypeId × Value → H} {w : World}
set_option maxRecDepth 100000 in
/-- The elements of a slice of structs that came in: each read by itself. -/
theorem keysArg {fuel : Nat} {a : Option Addr} {len cap : Nat} {d : DataW H} {p : List MemPlace} (h : DataW.trod enc Try.prog w 0 (fun _ => true) true fuel 38 (Value.slice a len cap).cells.toList = some (d, p)) : KeysW w w.heap.size a len ∧ len ≤ 9223372036854775807 := by
  obtain ⟨h1, h2⟩ := elems_of Try.underlying38 Try.cellsKey (by decide) h
  refine ⟨fun j hj => ?_, h1⟩
  obtain ⟨b, off, cs, n, x, hA, hb, hl, hr, ht⟩ := h2 j hj
  match cs, hl with
  | [c0, c1, c2], _ =>
    obtain ⟨k, hk, hw⟩ := key_of ht
    rw [hk] at hr
    exact ⟨b, off, k, hA, hb, hr, hw⟩
set_option maxRecDepth 100000 in
theorem rowsArg {fuel : Nat} {a : Option Addr} {len cap : Nat} {d : DataW H} {p : List MemPlace} (h : DataW.trod enc Try.prog w 0 (fun _ => true) true fuel 70 (Value.slice a len cap).cells.toList = some (d, p)) : RowsW w w.heap.size a len ∧ len ≤ 9223372036854775807 := by
  obtain ⟨h1, h2⟩ := elems_of Try.underlying70 (z := 1) (by kernel_rfl) (by decide) h
  refine ⟨fun j hj => ?_, h1⟩
  obtain ⟨b, off, cs, n, x, hA, hb, hl, hr, ht⟩ := h2 j hj
  match cs, hl with
  | [c0], _ =>
    obtain ⟨B, m, c, l, rfl, h3, h4, h5⟩ := bytes_of ht
    have := hr 0 _ rfl
    rw [Nat.mul_one, Nat.add_zero] at this
    exact ⟨b, off, B, m, c, l, hA, hb, this, h4, h3, h5⟩
end
end Go.Proofs.Ytocmgdhgimpfhaa
