/- The frame of a law's proof, further: pages that came in. -/
import Derived.Test.YtdkbpjkoiegflaaGreatFrameK
import Derived.Test.YtdkbpjkoiegflaaGreatPgDf
namespace Go.Proofs.YtdkbpjkoiegflaaGreat
open Go.ChangeShapes Go.WideShapes Go.ChangeAt Go.RowKit

def Pg.cells (p : Pg) : List Value := [.int .i64 p.k.t, .int .i64 p.k.c, .int .i64 p.k.e, .int .i64 p.id, .int .i64 p.ver]
theorem Tryz.cellsPage : Tryz.prog.cellsOf 88 = 5 := by kernel_rfl
theorem list5 {α : Type} {l : List α} (h : l.length = 5) : ∃ a b c d e, l = [a, b, c, d, e] := by
  match l, h with
  | [a, b, c, d, e], _ => exact ⟨a, b, c, d, e, rfl⟩
section
variable {H : Type} {enc : TypeId × Value → H} {w : World}
set_option maxRecDepth 100000 in
theorem page_of {fuel : Nat} {c0 c1 c2 c3 c4 : Value} {x : DataW H × List MemPlace} (h : DataW.trod enc Tryz.prog w 0 (fun _ => true) true fuel 88 [c0, c1, c2, c3, c4] = some x) : ∃ p : Pg, [c0, c1, c2, c3, c4] = p.cells ∧ p.wf := by
  obtain ⟨xs, m, _, _, hcl, hxl, hf⟩ := DataW.trod_struct Tryz.underlying88 h
  have hx3 : xs.length = 3 := hxl
  have f0 := hf 0 _ rfl
  have f1 := hf 1 _ rfl
  have f2 := hf 2 _ rfl
  change DataW.trod enc Tryz.prog w 0 _ true m 54 (([c0, c1, c2, c3, c4].drop 0).take (Tryz.prog.cellsOf 54)) = _ at f0
  change DataW.trod enc Tryz.prog w 0 _ true m 3 (([c0, c1, c2, c3, c4].drop 3).take (Tryz.prog.cellsOf 3)) = _ at f1
  change DataW.trod enc Tryz.prog w 0 _ true m 3 (([c0, c1, c2, c3, c4].drop 4).take (Tryz.prog.cellsOf 3)) = _ at f2
  rw [Tryz.cellsInt] at f1 f2
  rw [Tryz.cellsKey] at f0
  change DataW.trod enc Tryz.prog w 0 _ true m 54 [c0, c1, c2] = _ at f0
  change DataW.trod enc Tryz.prog w 0 _ true m 3 [c3] = _ at f1
  change DataW.trod enc Tryz.prog w 0 _ true m 3 [c4] = _ at f2
  rw [List.getElem?_eq_getElem (by omega)] at f0 f1 f2
  obtain ⟨k, hk, hw⟩ := key_of f0
  obtain ⟨k1, e1, _, w1⟩ := DataW.trod_int Tryz.underlying3 f1
  obtain ⟨k2, e2, _, w2⟩ := DataW.trod_int Tryz.underlying3 f2
  injection e1 with e1
  injection e2 with e2
  subst e1 e2
  simp only [Ky.cells, List.cons.injEq, and_true] at hk
  obtain ⟨rfl, rfl, rfl⟩ := hk
  exact ⟨⟨k, k1, k2⟩, rfl, hw, wf_i64 w1, wf_i64 w2⟩
set_option maxRecDepth 100000 in
theorem pageArg {r : Reach} {b0 : Nat} {v : Value} {d : DataW H} {p : List MemPlace} (hv : Value.okWide Tryz.prog w r b0 88 v) (h : DataW.Trod enc Tryz.prog w 0 (fun _ => true) true 88 v d p) : ∃ q : Pg, v = (.agg #[.int .i64 (q).k.t, .int .i64 (q).k.c, .int .i64 (q).k.e, .int .i64 (q).id, .int .i64 (q).ver]) ∧ q.wf := by
  simp only [Value.okWide, Tryz.underlying88] at hv
  obtain ⟨cs, rfl, hsz, _⟩ := hv
  obtain ⟨fuel, hf⟩ := h
  rw [Tryz.cellsPage] at hsz
  have hl : cs.toList.length = 5 := by rw [Array.length_toList, hsz]
  have hf' : DataW.trod enc Tryz.prog w 0 (fun _ => true) true fuel 88 cs.toList = some (d, p) := by simpa [Value.cells] using hf
  obtain ⟨c0, c1, c2, c3, c4, hcs⟩ := list5 hl
  rw [hcs] at hf'
  obtain ⟨q, hq, hw⟩ := page_of hf'
  refine ⟨q, ?_, hw⟩
  rw [show cs = #[c0, c1, c2, c3, c4] from Array.toList_inj.1 hcs]
  simp only [Pg.cells, List.cons.injEq, and_true] at hq
  rw [hq.1, hq.2.1, hq.2.2.1, hq.2.2.2.1, hq.2.2.2.2]
end
end Go.Proofs.YtdkbpjkoiegflaaGreat
