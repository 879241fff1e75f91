/- The frame of a law's proof, further: the scripts' operations on roots that came in. -/
import Derived.Test.YtocmgdhgimpfhaaFrameK
import Derived.Test.YtocmgdhgimpfhaaFrameO
import Derived.Test.YtocmgdhgimpfhaaPgDef
namespace Go.Proofs.Ytocmgdhgimpfhaa
open Go.ChangeShapes Go.WideShapes Go.ChangeAt Go.RowKit

/-- An operation of a script, by its parts. -/
structure OpR where
  kind : Int
  i : Int
  fr : Int
  BA : Option Addr
  Bn : Nat
  Bc : Nat
  l : List UInt8
  KA : Option Addr
  Kn : Nat
  Kc : Nat
  ks : List Bool
def OpR.cells (o : OpR) : List Value := [.int .i64 o.kind, .int .i64 o.i, .int .i64 o.fr, .slice o.BA o.Bn o.Bc, .slice o.KA o.Kn o.Kc]
structure OpR.ok (o : OpR) (w : World) (hi : Nat) : Prop where
  b : Bts w 0 hi o.BA o.Bn o.l
  bc : o.Bn ≤ o.Bc
  bm : o.Bn ≤ maxLen
  k : Lst w 0 hi o.KA o.Kn (o.ks.map .bool)
  k1 : i64ok o.kind
  i1 : i64ok o.i
  f1 : i64ok o.fr
theorem OpR.ok.below {o : OpR} {w w' : World} {hi : Nat} (h : o.ok w hi) (hb : Below hi w w') : o.ok w' hi := ⟨h.b.below hb (Nat.le_refl _), h.bc, h.bm, h.k.below hb (Nat.le_refl _), h.k1, h.i1, h.f1⟩
/-- A row of n operations at A, all that it holds in blocks below hi. -/
def OpsR (w : World) (hi : Nat) (A : Option Addr) (n : Nat) : Prop := ∀ j, j < n → ∃ b off o, A = some ⟨b, off, none⟩ ∧ b < hi ∧ w.rangeAt b (off + j * 5) (OpR.cells o) ∧ o.ok w hi
section
variable {H : Type} {enc : TypeId × Value → H} {w : World}
set_option maxRecDepth 100000 in
theorem opr_of {fuel : Nat} {cs : List Value} {x : DataW H × List MemPlace} (hl : cs.length = 5) (h : DataW.trod enc Try.prog w 0 (fun _ => true) true fuel 47 cs = some x) : ∃ o : OpR, cs = o.cells ∧ o.ok w w.heap.size := by
  obtain ⟨xs, m, _, _, hcl, hxl, hf⟩ := DataW.trod_struct Try.underlying47 h
  match cs, hl with
  | [c0, c1, c2, c3, c4], _ =>
    have hx5 : xs.length = 5 := hxl
    have g0 : Try.prog.cellsOf 3 = 1 := by kernel_rfl
    have g2 : Try.prog.cellsOf 44 = 1 := by kernel_rfl
    have g3 : Try.prog.cellsOf 45 = 1 := by kernel_rfl
    have f0 := hf 0 _ rfl
    have f1 := hf 1 _ rfl
    have f2 := hf 2 _ rfl
    have f3 := hf 3 _ rfl
    have f4 := hf 4 _ rfl
    change DataW.trod enc Try.prog w 0 _ true m 3 (([c0, c1, c2, c3, c4].drop 0).take (Try.prog.cellsOf 3)) = _ at f0
    change DataW.trod enc Try.prog w 0 _ true m 3 (([c0, c1, c2, c3, c4].drop 1).take (Try.prog.cellsOf 3)) = _ at f1
    change DataW.trod enc Try.prog w 0 _ true m 3 (([c0, c1, c2, c3, c4].drop 2).take (Try.prog.cellsOf 3)) = _ at f2
    change DataW.trod enc Try.prog w 0 _ true m 44 (([c0, c1, c2, c3, c4].drop 3).take (Try.prog.cellsOf 44)) = _ at f3
    change DataW.trod enc Try.prog w 0 _ true m 45 (([c0, c1, c2, c3, c4].drop 4).take (Try.prog.cellsOf 45)) = _ at f4
    rw [g0] at f0 f1 f2
    rw [g2] at f3
    rw [g3] at f4
    change DataW.trod enc Try.prog w 0 _ true m 3 [c0] = _ at f0
    change DataW.trod enc Try.prog w 0 _ true m 3 [c1] = _ at f1
    change DataW.trod enc Try.prog w 0 _ true m 3 [c2] = _ at f2
    change DataW.trod enc Try.prog w 0 _ true m 44 [c3] = _ at f3
    change DataW.trod enc Try.prog w 0 _ true m 45 [c4] = _ at f4
    rw [List.getElem?_eq_getElem (by omega)] at f0 f1 f2 f3 f4
    obtain ⟨k0, e0, _, w0⟩ := DataW.trod_int Try.underlying3 f0
    obtain ⟨k1, e1, _, w1⟩ := DataW.trod_int Try.underlying3 f1
    obtain ⟨k2, e2, _, w2⟩ := DataW.trod_int Try.underlying3 f2
    obtain ⟨B, n, c, l, e3, hbc, hbt, hbm⟩ := bytes_of f3
    obtain ⟨KA, Kn, Kc, ks, e4, hk, hks⟩ := bools_of Try.underlying45 Try.underlying4 (by kernel_rfl) f4
    injection e0 with e0
    injection e1 with e1
    injection e2 with e2
    injection e4 with e4
    subst e0 e1 e2 e3 e4
    exact ⟨⟨k0, k1, k2, B, n, c, l, KA, Kn, Kc, ks⟩, rfl, ⟨hbt, hbc, hbm, hks, wf_i64 w0, wf_i64 w1, wf_i64 w2⟩⟩
set_option maxRecDepth 100000 in
theorem oprArg {fuel : Nat} {a : Option Addr} {len cap : Nat} {d : DataW H} {p : List MemPlace} (h : DataW.trod enc Try.prog w 0 (fun _ => true) true fuel 22 (Value.slice a len cap).cells.toList = some (d, p)) : OpsR w w.heap.size a len ∧ len ≤ 9223372036854775807 := by
  obtain ⟨h1, h2⟩ := elems_of Try.underlying22 (z := 5) (by kernel_rfl) (by decide) h
  refine ⟨fun j hj => ?_, h1⟩
  obtain ⟨b, off, cs, n, x, hA, hb, hl, hr, ht⟩ := h2 j hj
  obtain ⟨o, rfl, ho⟩ := opr_of hl ht
  exact ⟨b, off, o, hA, hb, hr, ho⟩
end
end Go.Proofs.Ytocmgdhgimpfhaa
