/- A blob stored whole, and returned out of a cell. Nothing is assumed. -/
import Derived.Test.YtdkbpjkoiegflaaGreatStDr
namespace Go.Proofs.YtdkbpjkoiegflaaGreat
open Go.RowKit

theorem Tryz.sizeBlob : (Tryz.prog.info? 90).map (·.size) = some 11 := by kernel_rfl
theorem blk_there {w : World} {b : Nat} {t : TypeId} {cs : Array Value} (h : Blk w b t cs) (n : Nat) (hn : n ≤ cs.size) : w.there b 0 n := fun j hj =>
  ⟨by rw [h.cell, Nat.zero_add, Array.getElem?_eq_getElem (by omega)]; rfl, h.frozen _⟩
theorem blkB_range {w : World} {b : Nat} {t : TypeId} {l : List Value} (h : Blk w b t l.toArray) : w.rangeAt b 0 l := fun j u hu => by
  rw [Nat.zero_add, h.cell, List.getElem?_toArray]
  exact hu
section
variable {w : World} {b : Nat} {t : TypeId} {cs : Array Value}
theorem blk_setB (h : Blk w b t cs) (hs : cs.size = 11) (y : Bb) : Blk (w.setCells b 0 y.cells) b t #[.string (str (y).nm), .int .i64 (y).k.t, .int .i64 (y).k.c, .int .i64 (y).k.e, .int .i64 (y).b, .int .i64 (y).p.k.t, .int .i64 (y).p.k.c, .int .i64 (y).p.k.e, .int .i64 (y).p.id, .int .i64 (y).p.ver, .int .i64 (y).sz] := h.setAll y.cells (by rw [hs]; rfl)
/-- *p = x of a blob: some world in which it lies there. -/
theorem wpList_storeB {ops : Array Oper} {rest : List Oper} {op : Oper} {a : Act} {Q : Exit → Act → World → Prop} (hgd : op.guard = none) (x y : Operand) (ho : op.op = .store 90 x y)
    (h : Blk w b t cs) (hs : cs.size = 11) (hx : a.eval x = .pointer (some ⟨b, 0, none⟩)) (z : Bb) (hy : a.eval y = (.agg #[.string (str (z).nm), .int .i64 (z).k.t, .int .i64 (z).k.c, .int .i64 (z).k.e, .int .i64 (z).b, .int .i64 (z).p.k.t, .int .i64 (z).p.k.c, .int .i64 (z).p.k.e, .int .i64 (z).p.id, .int .i64 (z).p.ver, .int .i64 (z).sz]))
    (hK : ∀ w', Blk w' b t #[.string (str (z).nm), .int .i64 (z).k.t, .int .i64 (z).k.c, .int .i64 (z).k.e, .int .i64 (z).b, .int .i64 (z).p.k.t, .int .i64 (z).p.k.c, .int .i64 (z).p.k.e, .int .i64 (z).p.id, .int .i64 (z).p.ver, .int .i64 (z).sz] → w.grownBy w' (some b) → wpList Tryz.prog ops Q rest (a.put op.dst undef) w') : wpList Tryz.prog ops Q (op :: rest) a w :=
  wpList_store_mid hgd 90 x y ho b 0 z.cells.toArray hx hy (blk_there h 11 (by omega)) Tryz.sizeBlob (all_oneCell_toArray (bb_cell z)) (hK _ (blk_setB h hs z) (grown_setCells b z.cells 0 w))
theorem wp_storeB {op : Oper} {a : Act} {K : Act → World → Prop} {Q : Exit → Act → World → Prop} (x y : Operand) (ho : op.op = .store 90 x y)
    (h : Blk w b t cs) (hs : cs.size = 11) (hx : a.eval x = .pointer (some ⟨b, 0, none⟩)) (z : Bb) (hy : a.eval y = (.agg #[.string (str (z).nm), .int .i64 (z).k.t, .int .i64 (z).k.c, .int .i64 (z).k.e, .int .i64 (z).b, .int .i64 (z).p.k.t, .int .i64 (z).p.k.c, .int .i64 (z).p.k.e, .int .i64 (z).p.id, .int .i64 (z).p.ver, .int .i64 (z).sz]))
    (hK : ∀ w', Blk w' b t #[.string (str (z).nm), .int .i64 (z).k.t, .int .i64 (z).k.c, .int .i64 (z).k.e, .int .i64 (z).b, .int .i64 (z).p.k.t, .int .i64 (z).p.k.c, .int .i64 (z).p.k.e, .int .i64 (z).p.id, .int .i64 (z).p.ver, .int .i64 (z).sz] → w.grownBy w' (some b) → K (a.put op.dst undef) w') : op.wp Tryz.prog a w K Q :=
  wp_store_mid 90 x y ho b 0 z.cells.toArray hx hy (blk_there h 11 (by omega)) Tryz.sizeBlob (all_oneCell_toArray (bb_cell z)) (hK _ (blk_setB h hs z) (grown_setCells b z.cells 0 w))
theorem load_B {y : Bb} (h : Blk w b t #[.string (str (y).nm), .int .i64 (y).k.t, .int .i64 (y).k.c, .int .i64 (y).k.e, .int .i64 (y).b, .int .i64 (y).p.k.t, .int .i64 (y).p.k.c, .int .i64 (y).p.k.e, .int .i64 (y).p.id, .int .i64 (y).p.ver, .int .i64 (y).sz]) : (loadVar 90 ⟨b, 0, none⟩).run Tryz.prog w = .ok (.agg #[.string (str (y).nm), .int .i64 (y).k.t, .int .i64 (y).k.c, .int .i64 (y).k.e, .int .i64 (y).b, .int .i64 (y).p.k.t, .int .i64 (y).p.k.c, .int .i64 (y).p.k.e, .int .i64 (y).p.id, .int .i64 (y).p.ver, .int .i64 (y).sz]) w :=
  run_loadVar_mid (P := Tryz.prog) w b 0 90 y.cells _ (blkB_range (l := y.cells) h) Tryz.underlying90 rfl Tryz.sizeBlob
theorem exec_loadB {op : Oper} {a : Act} {y : Bb} (x : Operand) (ho : op.op = .load 90 x) (hx : a.eval x = .pointer (some ⟨b, 0, none⟩)) (h : Blk w b t #[.string (str (y).nm), .int .i64 (y).k.t, .int .i64 (y).k.c, .int .i64 (y).k.e, .int .i64 (y).b, .int .i64 (y).p.k.t, .int .i64 (y).p.k.c, .int .i64 (y).p.k.e, .int .i64 (y).p.id, .int .i64 (y).p.ver, .int .i64 (y).sz]) : (execOp a.eval op).run Tryz.prog w = .ok (.value (.agg #[.string (str (y).nm), .int .i64 (y).k.t, .int .i64 (y).k.c, .int .i64 (y).k.e, .int .i64 (y).b, .int .i64 (y).p.k.t, .int .i64 (y).p.k.c, .int .i64 (y).p.k.e, .int .i64 (y).p.id, .int .i64 (y).p.ver, .int .i64 (y).sz])) w :=
  exec_load_mid 90 x ho b 0 hx y.cells _ (blkB_range (l := y.cells) h) Tryz.underlying90 rfl Tryz.sizeBlob
theorem res_B {fn : Func} {c r : Nat} (hr : fn.results = #[.cell c 90, .tmp r]) {tmps : Array Value} {y : Bb} (h : Blk w b t #[.string (str (y).nm), .int .i64 (y).k.t, .int .i64 (y).k.c, .int .i64 (y).k.e, .int .i64 (y).b, .int .i64 (y).p.k.t, .int .i64 (y).p.k.c, .int .i64 (y).p.k.e, .int .i64 (y).p.id, .int .i64 (y).p.ver, .int .i64 (y).sz]) (hc : tmps.getD c undef = .pointer (some ⟨b, 0, none⟩)) {u : Value} (hu : tmps.getD r undef = u) :
    (results fn tmps).run Tryz.prog w = .ok (.tuple #[(.agg #[.string (str (y).nm), .int .i64 (y).k.t, .int .i64 (y).k.c, .int .i64 (y).k.e, .int .i64 (y).b, .int .i64 (y).p.k.t, .int .i64 (y).p.k.c, .int .i64 (y).p.k.e, .int .i64 (y).p.id, .int .i64 (y).p.ver, .int .i64 (y).sz]), u]) w := by
  have := load_B h
  subst hu
  have hc' : tmps[c]?.getD undef = .pointer (some ⟨b, 0, none⟩) := by simpa using hc
  simp [results, hr, hc', asAddr, this]
end
end Go.Proofs.YtdkbpjkoiegflaaGreat
