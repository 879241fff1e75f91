/- The frame of a law's proof, further: rows of bools, and rows of the scripts' operations, that came in. The frame of a law's proof, further: bytes and keys inside of what came in, elements of a row of structs. The frame of a law's proof, further: pages that came in. -/
import Derived.Test.YtolaojkcofbkhaaGreatFrame
import Derived.Test.YtolaojkcofbkhaaGreatDvC
import Derived.Deep.Grids
import Derived.Test.YtolaojkcofbkhaaGreatVtB
import Derived.Test.YtolaojkcofbkhaaGreatNums
import Derived.Test.YtolaojkcofbkhaaGreatPgDf
namespace Go.Proofs.YtolaojkcofbkhaaGreat
open Go.ChangeShapes Go.WideShapes Go.ChangeAt Go.RowKit

/-- An operation of a script, by its parts. -/
structure OpV where
  kind : Int
  i : Int
  BA : Option Addr
  Bn : Nat
  Bc : Nat
  l : List UInt8
  KA : Option Addr
  Kn : Nat
  Kc : Nat
  ks : List Bool
def OpV.cells (o : OpV) : List Value := [.int .i64 o.kind, .int .i64 o.i, .slice o.BA o.Bn o.Bc, .slice o.KA o.Kn o.Kc]
structure OpV.ok (o : OpV) (w : World) (hi : Nat) : Prop where
  b : Bts w 0 hi o.BA o.Bn o.l
  bc : o.Bn ≤ o.Bc
  k : Lst w 0 hi o.KA o.Kn (o.ks.map .bool)
  k1 : -9223372036854775808 ≤ o.kind ∧ o.kind ≤ 9223372036854775807
  i1 : -9223372036854775808 ≤ o.i ∧ o.i ≤ 9223372036854775807
  Kb : ∀ u, o.Kn ≠ 0 → o.KA.map (·.block) = some u → u < hi
/-- A row of n operations at A, all that it holds in blocks below hi. -/
def Ops (w : World) (hi : Nat) (A : Option Addr) (n : Nat) : Prop := ∀ j, j < n → ∃ b off o, A = some ⟨b, off, none⟩ ∧ b < hi ∧ w.rangeAt b (off + j * 4) (OpV.cells o) ∧ o.ok w hi
theorem OpV.ok.below {o : OpV} {w w' : World} {hi : Nat} (h : o.ok w hi) (hb : Below hi w w') : o.ok w' hi := ⟨h.b.below hb (Nat.le_refl _), h.bc, h.k.below hb (Nat.le_refl _), h.k1, h.i1, h.Kb⟩
theorem Ops.below {w w' : World} {hi n : Nat} {A : Option Addr} (h : Ops w hi A n) (hb : Below hi w w') : Ops w' hi A n := fun j hj => by
  obtain ⟨b, off, o, hA, hlt, hr, ho⟩ := h j hj
  exact ⟨b, off, o, hA, hlt, rangeAt_keep hr (hb.block b hlt), ho.below hb⟩

section
variable {H : Type} {enc : TypeId × Value → H} {w : World}
end
end Go.Proofs.YtolaojkcofbkhaaGreat
/- The frame of a law's proof, further: bytes and keys inside of what came in, elements of a row of structs. -/
namespace Go.Proofs.YtolaojkcofbkhaaGreat
open Go.ChangeShapes Go.WideShapes Go.ChangeAt Go.RowKit

section
variable {H : Type} {enc : TypeId × Value → H} {w : World}
set_option maxRecDepth 100000 in
theorem bytes_of {fuel : Nat} {c2 : Value} {x : DataW H × List MemPlace} (f2 : DataW.trod enc Tryz.prog w 0 (fun _ => true) true fuel 51 [c2] = some x) : ∃ BA Bn Bc l, c2 = Value.slice BA Bn Bc ∧ Bn ≤ Bc ∧ Bts w 0 w.heap.size BA Bn l ∧ Bn ≤ maxLen := by
  rcases open_ints Tryz.underlying51 Tryz.underlying5 (by kernel_rfl) f2 with ⟨hcs, _⟩ | ⟨y, l, c, zs, hcs, _, hl, hm, hz, hx, hcell, hwz⟩
  · injection hcs with hcs
    exact ⟨none, 0, 0, [], hcs, Nat.le_refl _, Bts.nil _ _ _ _, Nat.zero_le _⟩
  · have hz' : zs.length = c := by simpa using hz
    obtain ⟨bl, hbl, _⟩ := argB (w := w) (a := some y) (len := l) (cap := c) (zs := zs) (.inr ⟨_, rfl, hl, hm, hz', fun h0 => by
      have hc0 := hcell 0 (by omega)
      rw [add_zero_] at hc0
      exact block_lt hc0, hcell, hwz⟩)
    injection hcs with hcs
    exact ⟨some y, l, c, bl, hcs, hl, hbl, by omega⟩
set_option maxRecDepth 100000 in
theorem key_of {fuel : Nat} {c0 c1 c2 : Value} {x : DataW H × List MemPlace} (h : DataW.trod enc Tryz.prog w 0 (fun _ => true) true fuel 54 [c0, c1, c2] = some x) : ∃ k : Ky, [c0, c1, c2] = k.cells ∧ k.wf := by
  obtain ⟨xs, m, _, _, hcl, hxl, hf⟩ := DataW.trod_struct Tryz.underlying54 h
  have hx3 : xs.length = 3 := hxl
  have f0 := hf 0 _ rfl
  have f1 := hf 1 _ rfl
  have f2 := hf 2 _ rfl
  change DataW.trod enc Tryz.prog w 0 _ true m 3 (([c0, c1, c2].drop 0).take (Tryz.prog.cellsOf 3)) = _ at f0
  change DataW.trod enc Tryz.prog w 0 _ true m 3 (([c0, c1, c2].drop 1).take (Tryz.prog.cellsOf 3)) = _ at f1
  change DataW.trod enc Tryz.prog w 0 _ true m 3 (([c0, c1, c2].drop 2).take (Tryz.prog.cellsOf 3)) = _ at f2
  rw [Tryz.cellsInt] at f0 f1 f2
  change DataW.trod enc Tryz.prog w 0 _ true m 3 [c0] = _ at f0
  change DataW.trod enc Tryz.prog w 0 _ true m 3 [c1] = _ at f1
  change DataW.trod enc Tryz.prog w 0 _ true m 3 [c2] = _ at f2
  rw [List.getElem?_eq_getElem (by omega)] at f0 f1 f2
  obtain ⟨k0, e0, _, w0⟩ := DataW.trod_int Tryz.underlying3 f0
  obtain ⟨k1, e1, _, w1⟩ := DataW.trod_int Tryz.underlying3 f1
  obtain ⟨k2, e2, _, w2⟩ := DataW.trod_int Tryz.underlying3 f2
  injection e0 with e0
  injection e1 with e1
  injection e2 with e2
  subst e0 e1 e2
  exact ⟨⟨k0, k1, k2⟩, rfl, wf_i64 w0, wf_i64 w1, wf_i64 w2⟩
set_option maxRecDepth 100000 in
theorem elems_of {t e : TypeId} {z fuel : Nat} {a : Option Addr} {len cap : Nat} {d : DataW H} {p : List MemPlace} (ht : Tryz.prog.underlying t = some (.slice e)) (hz : Tryz.prog.cellsOf e = z) (hz1 : 0 < z)
    (h : DataW.trod enc Tryz.prog w 0 (fun _ => true) true fuel t (Value.slice a len cap).cells.toList = some (d, p)) :
    len ≤ 9223372036854775807 ∧ ∀ j, j < len → ∃ b off cs n x, a = some ⟨b, off, none⟩ ∧ b < w.heap.size ∧ cs.length = z ∧ w.rangeAt b (off + j * z) cs ∧ DataW.trod enc Tryz.prog w 0 (fun _ => true) true n e cs = some x := by
  rcases DataW.trod_slice ht h with ⟨hcs, _⟩ | ⟨x, l, c, elems, rest, n, _, hcs, _, _, hl, hmx, hlen, hel, _⟩
  · simp [Value.cells] at hcs
    obtain ⟨rfl, rfl, rfl⟩ := hcs
    exact ⟨by decide, fun j hj => absurd hj (by omega)⟩
  · simp [Value.cells] at hcs
    obtain ⟨rfl, rfl, rfl⟩ := hcs
    rw [hz] at hel
    refine ⟨by unfold maxLen at hmx; omega, fun j hj => ?_⟩
    have hj' := hel j hj
    rw [List.getElem?_eq_getElem (by omega)] at hj'
    obtain ⟨cs, hc1, hc2⟩ := Option.bind_eq_some_iff.1 hj'
    obtain ⟨_, hcl, hcell⟩ := World.cells?_some hc1
    have hj0 := hel 0 (by omega)
    rw [List.getElem?_eq_getElem (by omega)] at hj0
    obtain ⟨cs0, hc10, _⟩ := Option.bind_eq_some_iff.1 hj0
    obtain ⟨_, hcl0, hcell0⟩ := World.cells?_some hc10
    have hs0 := hcell0 0 (by omega)
    rw [Nat.zero_mul, add_zero_, add_zero_, List.getElem?_eq_getElem (by omega)] at hs0
    have hsp := World.cell?_spot hs0
    obtain ⟨b, off, spot⟩ := x
    have hsp' : spot = none := hsp
    subst hsp'
    have h00 := hcell 0 (by omega)
    rw [List.getElem?_eq_getElem (by omega)] at h00
    have hlt := block_lt h00
    rw [add_plain, add_plain] at hlt
    refine ⟨b, off, cs, n, _, rfl, hlt, by omega, fun t v hv => ?_, hc2⟩
    have ht' : t < z := by have := (List.getElem?_eq_some_iff.1 hv).1; omega
    have := hcell t (by omega)
    rw [add_plain, add_plain] at this
    rw [this]
    exact hv
set_option maxRecDepth 100000 in
theorem keyArg {r : Reach} {b0 : Nat} {v : Value} {d : DataW H} {p : List MemPlace} (hv : Value.okWide Tryz.prog w r b0 54 v) (h : DataW.Trod enc Tryz.prog w 0 (fun _ => true) true 54 v d p) : ∃ k : Ky, v = (.agg #[.int .i64 (k).t, .int .i64 (k).c, .int .i64 (k).e]) ∧ k.wf := by
  simp only [Value.okWide, Tryz.underlying54] at hv
  obtain ⟨cs, rfl, hsz, _⟩ := hv
  obtain ⟨fuel, hf⟩ := h
  rw [Tryz.cellsKey] at hsz
  have hl : cs.toList.length = 3 := by rw [Array.length_toList, hsz]
  have hf' : DataW.trod enc Tryz.prog w 0 (fun _ => true) true fuel 54 cs.toList = some (d, p) := by simpa [Value.cells] using hf
  obtain ⟨c0, c1, c2, hcs⟩ := list3 hl
  rw [hcs] at hf'
  obtain ⟨k, hk, hw⟩ := key_of hf'
  refine ⟨k, ?_, hw⟩
  rw [show cs = #[c0, c1, c2] from Array.toList_inj.1 hcs]
  simp only [Ky.cells, List.cons.injEq, and_true] at hk
  rw [hk.1, hk.2.1, hk.2.2]
end
end Go.Proofs.YtolaojkcofbkhaaGreat

/- The frame of a law's proof, further: pages that came in. -/
namespace Go.Proofs.YtolaojkcofbkhaaGreat
open Go.ChangeShapes Go.WideShapes Go.ChangeAt Go.RowKit

def Pg.cells (p : Pg) : List Value := [.int .i64 p.k.t, .int .i64 p.k.c, .int .i64 p.k.e, .int .i64 p.id, .int .i64 p.ver]
theorem Tryz.cellsPage : Tryz.prog.cellsOf 88 = 5 := by kernel_rfl
theorem list5 {α : Type} {l : List α} (h : l.length = 5) : ∃ a b c d e, l = [a, b, c, d, e] := by
  match l, h with
  | [a, b, c, d, e], _ => exact ⟨a, b, c, d, e, rfl⟩
section
variable {H : Type} {enc : TypeId × Value → H} {w : World}
set_option maxRecDepth 100000 in
theorem page_of {fuel : Nat} {c0 c1 c2 c3 c4 : Value} {x : DataW H × List MemPlace} (h : DataW.trod enc Tryz.prog w 0 (fun _ => true) true fuel 88 [c0, c1, c2, c3, c4] = some x) : ∃ p : Pg, [c0, c1, c2, c3, c4] = p.cells ∧ p.wf := by
  obtain ⟨xs, m, _, _, hcl, hxl, hf⟩ := DataW.trod_struct Tryz.underlying88 h
  have hx3 : xs.length = 3 := hxl
  have f0 := hf 0 _ rfl
  have f1 := hf 1 _ rfl
  have f2 := hf 2 _ rfl
  change DataW.trod enc Tryz.prog w 0 _ true m 54 (([c0, c1, c2, c3, c4].drop 0).take (Tryz.prog.cellsOf 54)) = _ at f0
  change DataW.trod enc Tryz.prog w 0 _ true m 3 (([c0, c1, c2, c3, c4].drop 3).take (Tryz.prog.cellsOf 3)) = _ at f1
  change DataW.trod enc Tryz.prog w 0 _ true m 3 (([c0, c1, c2, c3, c4].drop 4).take (Tryz.prog.cellsOf 3)) = _ at f2
  rw [Tryz.cellsInt] at f1 f2
  rw [Tryz.cellsKey] at f0
  change DataW.trod enc Tryz.prog w 0 _ true m 54 [c0, c1, c2] = _ at f0
  change DataW.trod enc Tryz.prog w 0 _ true m 3 [c3] = _ at f1
  change DataW.trod enc Tryz.prog w 0 _ true m 3 [c4] = _ at f2
  rw [List.getElem?_eq_getElem (by omega)] at f0 f1 f2
  obtain ⟨k, hk, hw⟩ := key_of f0
  obtain ⟨k1, e1, _, w1⟩ := DataW.trod_int Tryz.underlying3 f1
  obtain ⟨k2, e2, _, w2⟩ := DataW.trod_int Tryz.underlying3 f2
  injection e1 with e1
  injection e2 with e2
  subst e1 e2
  simp only [Ky.cells, List.cons.injEq, and_true] at hk
  obtain ⟨rfl, rfl, rfl⟩ := hk
  exact ⟨⟨k, k1, k2⟩, rfl, hw, wf_i64 w1, wf_i64 w2⟩
set_option maxRecDepth 100000 in
theorem pageArg {r : Reach} {b0 : Nat} {v : Value} {d : DataW H} {p : List MemPlace} (hv : Value.okWide Tryz.prog w r b0 88 v) (h : DataW.Trod enc Tryz.prog w 0 (fun _ => true) true 88 v d p) : ∃ q : Pg, v = (.agg #[.int .i64 (q).k.t, .int .i64 (q).k.c, .int .i64 (q).k.e, .int .i64 (q).id, .int .i64 (q).ver]) ∧ q.wf := by
  simp only [Value.okWide, Tryz.underlying88] at hv
  obtain ⟨cs, rfl, hsz, _⟩ := hv
  obtain ⟨fuel, hf⟩ := h
  rw [Tryz.cellsPage] at hsz
  have hl : cs.toList.length = 5 := by rw [Array.length_toList, hsz]
  have hf' : DataW.trod enc Tryz.prog w 0 (fun _ => true) true fuel 88 cs.toList = some (d, p) := by simpa [Value.cells] using hf
  obtain ⟨c0, c1, c2, c3, c4, hcs⟩ := list5 hl
  rw [hcs] at hf'
  obtain ⟨q, hq, hw⟩ := page_of hf'
  refine ⟨q, ?_, hw⟩
  rw [show cs = #[c0, c1, c2, c3, c4] from Array.toList_inj.1 hcs]
  simp only [Pg.cells, List.cons.injEq, and_true] at hq
  rw [hq.1, hq.2.1, hq.2.2.1, hq.2.2.2.1, hq.2.2.2.2]
end
end Go.Proofs.YtolaojkcofbkhaaGreat
