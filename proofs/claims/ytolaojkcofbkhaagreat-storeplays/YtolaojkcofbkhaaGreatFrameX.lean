import Derived.Test.YtolaojkcofbkhaaGreatFrame
import Derived.Deep.Grids
import Derived.Test.YtolaojkcofbkhaaGreatNums
import Derived.Test.YtolaojkcofbkhaaGreatPgDf
namespace Go.Proofs.YtolaojkcofbkhaaGreat
set_option maxRecDepth 100000
open Go.ChangeShapes Go.WideShapes Go.ChangeAt Go.RowKit
section
variable {H : Type} {enc : TypeId × Value → H} {w : World}
theorem bytes_of {fuel : Nat} {c2 : Value} {x : DataW H × List MemPlace} (f2 : DataW.trod enc Tryz.prog w 0 (fun _ => true) true fuel 51 [c2] = some x) : ∃ BA Bn Bc l, c2 = Value.slice BA Bn Bc ∧ Bn ≤ Bc ∧ Bts w 0 w.heap.size BA Bn l ∧ Bn ≤ maxLen := by
 rcases open_ints Tryz.underlying51 Tryz.underlying5 (by kernel_rfl) f2 with ⟨hcs, _⟩ | ⟨y, l, c, zs, hcs, _, hl, hm, hz, hx, hcell, hwz⟩
 · injection hcs with hcs
   exact ⟨none, 0, 0, [], hcs, nl _, Bts.nil _ _ _ _, Nat.zero_le _⟩
 · have hz' : zs.length = c := by simpa using hz
   obtain ⟨bl, hbl, _⟩ := argB (w := w) (a := some y) (len := l) (cap := c) (zs := zs) (.inr ⟨_, rfl, hl, hm, hz', fun h0 => by
    have hc0 := hcell 0 (by omega)
    rw [add_zero_] at hc0
    exact block_lt hc0, hcell, hwz⟩)
   injection hcs with hcs
   exact ⟨some y, l, c, bl, hcs, hl, hbl, by omega⟩
theorem key_of {fuel : Nat} {c0 c1 c2 : Value} {x : DataW H × List MemPlace} (h : DataW.trod enc Tryz.prog w 0 (fun _ => true) true fuel 54 [c0, c1, c2] = some x) : ∃ k : Ky, [c0, c1, c2] = k.cells ∧ k.wf := by
 obtain ⟨xs, m, _, _, hcl, hxl, hf⟩ := DataW.trod_struct Tryz.underlying54 h
 have hx3 : xs.length = 3 := hxl
 have f0 := hf 0 _ rfl
 have f1 := hf 1 _ rfl
 have f2 := hf 2 _ rfl
 change DataW.trod enc Tryz.prog w 0 _ true m 3 (([c0, c1, c2].drop 0).take (Tryz.prog.cellsOf 3)) = _ at f0
 change DataW.trod enc Tryz.prog w 0 _ true m 3 (([c0, c1, c2].drop 1).take (Tryz.prog.cellsOf 3)) = _ at f1
 change DataW.trod enc Tryz.prog w 0 _ true m 3 (([c0, c1, c2].drop 2).take (Tryz.prog.cellsOf 3)) = _ at f2
 rw [Tryz.cellsInt] at f0 f1 f2
 change DataW.trod enc Tryz.prog w 0 _ true m 3 [c0] = _ at f0
 change DataW.trod enc Tryz.prog w 0 _ true m 3 [c1] = _ at f1
 change DataW.trod enc Tryz.prog w 0 _ true m 3 [c2] = _ at f2
 rw [List.getElem?_eq_getElem (by omega)] at f0 f1 f2
 obtain ⟨k0, e0, _, w0⟩ := DataW.trod_int Tryz.underlying3 f0
 obtain ⟨k1, e1, _, w1⟩ := DataW.trod_int Tryz.underlying3 f1
 obtain ⟨k2, e2, _, w2⟩ := DataW.trod_int Tryz.underlying3 f2
 injection e0 with e0
 injection e1 with e1
 injection e2 with e2
 subst e0 e1 e2
 exact ⟨⟨k0, k1, k2⟩, rfl, wf_i64 w0, wf_i64 w1, wf_i64 w2⟩
theorem elems_of {t e : TypeId} {z fuel : Nat} {a : Option Addr} {len cap : Nat} {d : DataW H} {p : List MemPlace} (ht : Tryz.prog.underlying t = some (.slice e)) (hz : Tryz.prog.cellsOf e = z) (hz1 : 0 < z)
 (h : DataW.trod enc Tryz.prog w 0 (fun _ => true) true fuel t (Value.slice a len cap).cells.toList = some (d, p)) :
 len ≤ 9223372036854775807 ∧ ∀ j, j < len → ∃ b off cs n x, a = some ⟨b, off, none⟩ ∧ b < w.heap.size ∧ cs.length = z ∧ w.rangeAt b (off + j * z) cs ∧ DataW.trod enc Tryz.prog w 0 (fun _ => true) true n e cs = some x := by
 rcases DataW.trod_slice ht h with ⟨hcs, _⟩ | ⟨x, l, c, elems, rest, n, _, hcs, _, _, hl, hmx, hlen, hel, _⟩
 · simp [Value.cells] at hcs
   obtain ⟨rfl, rfl, rfl⟩ := hcs
   exact ⟨by decide, fun j hj => absurd hj (by omega)⟩
 · simp [Value.cells] at hcs
   obtain ⟨rfl, rfl, rfl⟩ := hcs
   rw [hz] at hel
   refine ⟨by unfold maxLen at hmx; omega, fun j hj => ?_⟩
   have hj' := hel j hj
   rw [List.getElem?_eq_getElem (by omega)] at hj'
   obtain ⟨cs, hc1, hc2⟩ := Option.bind_eq_some_iff.1 hj'
   obtain ⟨_, hcl, hcell⟩ := World.cells?_some hc1
   have hj0 := hel 0 (by omega)
   rw [List.getElem?_eq_getElem (by omega)] at hj0
   obtain ⟨cs0, hc10, _⟩ := Option.bind_eq_some_iff.1 hj0
   obtain ⟨_, hcl0, hcell0⟩ := World.cells?_some hc10
   have hs0 := hcell0 0 (by omega)
   rw [Nat.zero_mul, add_zero_, add_zero_, List.getElem?_eq_getElem (by omega)] at hs0
   have hsp := World.cell?_spot hs0
   obtain ⟨b, off, spot⟩ := x
   have hsp' : spot = none := hsp
   subst hsp'
   have h00 := hcell 0 (by omega)
   rw [List.getElem?_eq_getElem (by omega)] at h00
   have hlt := block_lt h00
   rw [add_plain, add_plain] at hlt
   refine ⟨b, off, cs, n, _, rfl, hlt, by omega, fun t v hv => ?_, hc2⟩
   have ht' : t < z := by have := (List.getElem?_eq_some_iff.1 hv).1; omega
   have := hcell t (by omega)
   rw [add_plain, add_plain] at this
   rw [this]
   exact hv
end
def Pg.cells (p : Pg) : List Value := [.int .i64 p.k.t, .int .i64 p.k.c, .int .i64 p.k.e, .int .i64 p.id, .int .i64 p.ver]
end Go.Proofs.YtolaojkcofbkhaaGreat
