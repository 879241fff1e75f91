/- The frame of a law's proof, further: the scripts' operations on pages that came in. -/
import Derived.Test.YtbkcjpogafkoeaaFrameG
import Derived.Test.YtbkcjpogafkoeaaFrameO
namespace Go.Proofs.Ytbkcjpogafkoeaa
open Go.ChangeShapes Go.WideShapes Go.ChangeAt Go.RowKit

/-- An operation of a script, by its parts. -/
structure OpG where
  kind : Int
  i : Int
  fr : Int
  p : Pg
  BA : Option Addr
  Bn : Nat
  Bc : Nat
  l : List UInt8
  KA : Option Addr
  Kn : Nat
  Kc : Nat
  ks : List Bool
def OpG.cells (o : OpG) : List Value := [.int .i64 o.kind, .int .i64 o.i, .int .i64 o.fr, .int .i64 o.p.k.t, .int .i64 o.p.k.c, .int .i64 o.p.k.e, .int .i64 o.p.id, .int .i64 o.p.ver, .slice o.BA o.Bn o.Bc, .slice o.KA o.Kn o.Kc]
structure OpG.ok (o : OpG) (w : World) (hi : Nat) : Prop where
  b : Bts w 0 hi o.BA o.Bn o.l
  bc : o.Bn ≤ o.Bc
  k : Lst w 0 hi o.KA o.Kn (o.ks.map .bool)
  k1 : i64ok o.kind
  i1 : i64ok o.i
  f1 : i64ok o.fr
  p : o.p.wf
theorem OpG.ok.below {o : OpG} {w w' : World} {hi : Nat} (h : o.ok w hi) (hb : Below hi w w') : o.ok w' hi := ⟨h.b.below hb (Nat.le_refl _), h.bc, h.k.below hb (Nat.le_refl _), h.k1, h.i1, h.f1, h.p⟩
/-- A row of n operations at A, all that it holds in blocks below hi. -/
def OpsG (w : World) (hi : Nat) (A : Option Addr) (n : Nat) : Prop := ∀ j, j < n → ∃ b off o, A = some ⟨b, off, none⟩ ∧ b < hi ∧ w.rangeAt b (off + j * 10) (OpG.cells o) ∧ o.ok w hi
section
variable {H : Type} {enc : TypeId × Value → H} {w : World}
set_option maxRecDepth 100000 in
theorem opg_of {fuel : Nat} {cs : List Value} {x : DataW H × List MemPlace} (hl : cs.length = 10) (h : DataW.trod enc Try.prog w 0 (fun _ => true) true fuel 45 cs = some x) : ∃ o : OpG, cs = o.cells ∧ o.ok w w.heap.size := by
  obtain ⟨xs, m, _, _, hcl, hxl, hf⟩ := DataW.trod_struct Try.underlying45 h
  match cs, hl with
  | [c0, c1, c2, c3, c4, c5, c6, c7, c8, c9], _ =>
    have hx6 : xs.length = 6 := hxl
    have g2 : Try.prog.cellsOf 42 = 1 := by kernel_rfl
    have g3 : Try.prog.cellsOf 43 = 1 := by kernel_rfl
    have f0 := hf 0 _ rfl
    have f1 := hf 1 _ rfl
    have f2 := hf 2 _ rfl
    have f3 := hf 3 _ rfl
    have f4 := hf 4 _ rfl
    have f5 := hf 5 _ rfl
    change DataW.trod enc Try.prog w 0 _ true m 3 (([c0, c1, c2, c3, c4, c5, c6, c7, c8, c9].drop 0).take (Try.prog.cellsOf 3)) = _ at f0
    change DataW.trod enc Try.prog w 0 _ true m 3 (([c0, c1, c2, c3, c4, c5, c6, c7, c8, c9].drop 1).take (Try.prog.cellsOf 3)) = _ at f1
    change DataW.trod enc Try.prog w 0 _ true m 3 (([c0, c1, c2, c3, c4, c5, c6, c7, c8, c9].drop 2).take (Try.prog.cellsOf 3)) = _ at f2
    change DataW.trod enc Try.prog w 0 _ true m 41 (([c0, c1, c2, c3, c4, c5, c6, c7, c8, c9].drop 3).take (Try.prog.cellsOf 41)) = _ at f3
    change DataW.trod enc Try.prog w 0 _ true m 42 (([c0, c1, c2, c3, c4, c5, c6, c7, c8, c9].drop 8).take (Try.prog.cellsOf 42)) = _ at f4
    change DataW.trod enc Try.prog w 0 _ true m 43 (([c0, c1, c2, c3, c4, c5, c6, c7, c8, c9].drop 9).take (Try.prog.cellsOf 43)) = _ at f5
    rw [Try.cellsInt] at f0 f1 f2
    rw [Try.cellsPage] at f3
    rw [g2] at f4
    rw [g3] at f5
    change DataW.trod enc Try.prog w 0 _ true m 3 [c0] = _ at f0
    change DataW.trod enc Try.prog w 0 _ true m 3 [c1] = _ at f1
    change DataW.trod enc Try.prog w 0 _ true m 3 [c2] = _ at f2
    change DataW.trod enc Try.prog w 0 _ true m 41 [c3, c4, c5, c6, c7] = _ at f3
    change DataW.trod enc Try.prog w 0 _ true m 42 [c8] = _ at f4
    change DataW.trod enc Try.prog w 0 _ true m 43 [c9] = _ at f5
    rw [List.getElem?_eq_getElem (by omega)] at f0 f1 f2 f3 f4 f5
    obtain ⟨k0, e0, _, w0⟩ := DataW.trod_int Try.underlying3 f0
    obtain ⟨k1, e1, _, w1⟩ := DataW.trod_int Try.underlying3 f1
    obtain ⟨k2, e2, _, w2⟩ := DataW.trod_int Try.underlying3 f2
    obtain ⟨q, hq, hw⟩ := page_of f3
    obtain ⟨B, n, c, l, e4, hbc, hbt, _⟩ := bytes_of f4
    obtain ⟨KA, Kn, Kc, ks, e5, hk, hks⟩ := bools_of Try.underlying43 Try.underlying4 (by kernel_rfl) f5
    injection e0 with e0
    injection e1 with e1
    injection e2 with e2
    injection e5 with e5
    have hq' : c3 = .int .i64 q.k.t ∧ c4 = .int .i64 q.k.c ∧ c5 = .int .i64 q.k.e ∧ c6 = .int .i64 q.id ∧ c7 = .int .i64 q.ver := by
      simp only [Pg.cells, List.cons.injEq, and_true] at hq
      exact hq
    obtain ⟨rfl, rfl, rfl, rfl, rfl⟩ := hq'
    subst e0 e1 e2 e4 e5
    exact ⟨⟨k0, k1, k2, q, B, n, c, l, KA, Kn, Kc, ks⟩, rfl, ⟨hbt, hbc, hks, wf_i64 w0, wf_i64 w1, wf_i64 w2, hw⟩⟩
set_option maxRecDepth 100000 in
theorem opgArg {fuel : Nat} {a : Option Addr} {len cap : Nat} {d : DataW H} {p : List MemPlace} (h : DataW.trod enc Try.prog w 0 (fun _ => true) true fuel 22 (Value.slice a len cap).cells.toList = some (d, p)) : OpsG w w.heap.size a len ∧ len ≤ 9223372036854775807 := by
  obtain ⟨h1, h2⟩ := elems_of Try.underlying22 (z := 10) (by kernel_rfl) (by decide) h
  refine ⟨fun j hj => ?_, h1⟩
  obtain ⟨b, off, cs, n, x, hA, hb, hl, hr, ht⟩ := h2 j hj
  obtain ⟨o, rfl, ho⟩ := opg_of hl ht
  exact ⟨b, off, o, hA, hb, hr, ho⟩
end
end Go.Proofs.Ytbkcjpogafkoeaa
