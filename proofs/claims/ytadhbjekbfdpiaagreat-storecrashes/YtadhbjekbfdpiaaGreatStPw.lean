/- A plan as it lies while it is made; structs of a plan and of a page stored whole. Nothing is assumed. -/
import Derived.Test.YtadhbjekbfdpiaaGreatStPm
namespace Go.Proofs.YtadhbjekbfdpiaaGreat
open Go.RowKit

theorem Tryz.sizePlan : (Tryz.prog.info? 128).map (·.size) = some 3 := by kernel_rfl
theorem Tryz.sizePg : (Tryz.prog.info? 88).map (·.size) = some 5 := by kernel_rfl
/-- The cells of a plan. -/
def plC (m r : Value) (A : Option Addr) (n c : Nat) : List Value := [m, r, .slice A n c]
/-- The cells of a page. -/
def pgQ (q : Pg) : List Value := [.int .i64 q.k.t, .int .i64 q.k.c, .int .i64 q.k.e, .int .i64 q.id, .int .i64 q.ver]
section
variable {w : World} {b : Nat} {t : TypeId} {cs : Array Value}
/-- *p = x of a struct: some world in which it lies there. -/
theorem wpList_storeS {ops : Array Oper} {rest : List Oper} {op : Oper} {a : Act} {Q : Exit → Act → World → Prop} (hgd : op.guard = none) (T : TypeId) (x y : Operand) (ho : op.op = .store T x y)
    (h : Blk w b t cs) (us : List Value) (hs : cs.size = us.length) (hT : (Tryz.prog.info? T).map (·.size) = some us.length) (h1 : ∀ u ∈ us, u.oneCell' = true) (hx : a.eval x = .pointer (some ⟨b, 0, none⟩)) (hy : a.eval y = .agg us.toArray)
    (hK : ∀ w', Blk w' b t us.toArray → w.grownBy w' (some b) → wpList Tryz.prog ops Q rest (a.put op.dst undef) w') : wpList Tryz.prog ops Q (op :: rest) a w :=
  wpList_store_mid hgd T x y ho b 0 us.toArray hx hy (blk_there h us.length (by omega)) hT (all_oneCell_toArray h1) (hK _ (h.setAll us hs.symm) (grown_setCells b us 0 w))
theorem wp_storeS {op : Oper} {a : Act} {K : Act → World → Prop} {Q : Exit → Act → World → Prop} (T : TypeId) (x y : Operand) (ho : op.op = .store T x y)
    (h : Blk w b t cs) (us : List Value) (hs : cs.size = us.length) (hT : (Tryz.prog.info? T).map (·.size) = some us.length) (h1 : ∀ u ∈ us, u.oneCell' = true) (hx : a.eval x = .pointer (some ⟨b, 0, none⟩)) (hy : a.eval y = .agg us.toArray)
    (hK : ∀ w', Blk w' b t us.toArray → w.grownBy w' (some b) → K (a.put op.dst undef) w') : op.wp Tryz.prog a w K Q :=
  wp_store_mid T x y ho b 0 us.toArray hx hy (blk_there h us.length (by omega)) hT (all_oneCell_toArray h1) (hK _ (h.setAll us hs.symm) (grown_setCells b us 0 w))
theorem Tryz.sizeKey : (Tryz.prog.info? 54).map (·.size) = some 3 := by kernel_rfl
theorem wpList_storeK {ops : Array Oper} {rest : List Oper} {op : Oper} {a : Act} {Q : Exit → Act → World → Prop} (hgd : op.guard = none) (x y : Operand) (ho : op.op = .store 54 x y) {a0 a1 a2 a3 a4 : Value}
    (h : Blk w b t #[a0, a1, a2, a3, a4]) (hx : a.eval x = .pointer (some ⟨b, 0, none⟩)) (z : Ky) (hy : a.eval y = (.agg #[.int .i64 (z).t, .int .i64 (z).c, .int .i64 (z).e]))
    (hK : ∀ w', Blk w' b t #[.int .i64 z.t, .int .i64 z.c, .int .i64 z.e, a3, a4] → w.grownBy w' (some b) → wpList Tryz.prog ops Q rest (a.put op.dst undef) w') : wpList Tryz.prog ops Q (op :: rest) a w := by
  have hs := Blk.setCells [.int .i64 z.t, .int .i64 z.c, .int .i64 z.e] 0 w _ h (by simp)
  obtain ⟨cs', h1, h2⟩ := hs
  have : cs' = #[.int .i64 z.t, .int .i64 z.c, .int .i64 z.e, a3, a4] := by
    apply Array.toList_inj.1
    rw [h2]
    rfl
  rw [this] at h1
  exact wpList_store_mid hgd 54 x y ho b 0 #[.int .i64 z.t, .int .i64 z.c, .int .i64 z.e] hx hy (blk_there h 3 (by simp)) Tryz.sizeKey (all_oneCell_toArray (cs := [.int .i64 z.t, .int .i64 z.c, .int .i64 z.e]) (fun u hu => by simp at hu; rcases hu with rfl | rfl | rfl <;> rfl)) (hK _ h1 (grown_setCells b _ 0 w))
theorem load_Pl {m r : Value} {A : Option Addr} {n c : Nat} (h : Blk w b t #[m, r, .slice A n c]) : (loadVar 128 ⟨b, 0, none⟩).run Tryz.prog w = .ok (.agg #[m, r, .slice A n c]) w :=
  run_loadVar_mid (P := Tryz.prog) w b 0 128 (plC m r A n c) _ (blkB_range (l := plC m r A n c) h) Tryz.underlying128 rfl Tryz.sizePlan
theorem exec_loadPl {op : Oper} {a : Act} {m r : Value} {A : Option Addr} {n c : Nat} (x : Operand) (ho : op.op = .load 128 x) (hx : a.eval x = .pointer (some ⟨b, 0, none⟩)) (h : Blk w b t #[m, r, .slice A n c]) : (execOp a.eval op).run Tryz.prog w = .ok (.value (.agg #[m, r, .slice A n c])) w :=
  exec_load_mid 128 x ho b 0 hx (plC m r A n c) _ (blkB_range (l := plC m r A n c) h) Tryz.underlying128 rfl Tryz.sizePlan
theorem res_Pl {fn : Func} {k q : Nat} (hr : fn.results = #[.cell k 128, .tmp q]) {tmps : Array Value} {m r : Value} {A : Option Addr} {n c : Nat} (h : Blk w b t #[m, r, .slice A n c]) (hc : tmps.getD k undef = .pointer (some ⟨b, 0, none⟩)) {u : Value} (hu : tmps.getD q undef = u) :
    (results fn tmps).run Tryz.prog w = .ok (.tuple #[.agg #[m, r, .slice A n c], u]) w := by
  have := load_Pl h
  subst hu
  have hc' : tmps[k]?.getD undef = .pointer (some ⟨b, 0, none⟩) := by simpa using hc
  simp [results, hr, hc', asAddr, this]
theorem plB_cells {m r : Value} {A : Option Addr} {n c : Nat} (h : Blk w b t #[m, r, .slice A n c]) : w.cell? ⟨b, 0, none⟩ = some m ∧ w.cell? ⟨b, 1, none⟩ = some r ∧ w.cell? ⟨b, 2, none⟩ = some (.slice A n c) :=
  ⟨(h.cell 0).trans rfl, (h.cell 1).trans rfl, (h.cell 2).trans rfl⟩
theorem pg5_cells {q : Pg} (h : Blk w b t #[.int .i64 q.k.t, .int .i64 q.k.c, .int .i64 q.k.e, .int .i64 q.id, .int .i64 q.ver]) : w.cell? ⟨b, 0, none⟩ = some (.int .i64 q.k.t) ∧ w.cell? ⟨b, 1, none⟩ = some (.int .i64 q.k.c) ∧ w.cell? ⟨b, 2, none⟩ = some (.int .i64 q.k.e) ∧ w.cell? ⟨b, 3, none⟩ = some (.int .i64 q.id) ∧ w.cell? ⟨b, 4, none⟩ = some (.int .i64 q.ver) :=
  ⟨(h.cell 0).trans rfl, (h.cell 1).trans rfl, (h.cell 2).trans rfl, (h.cell 3).trans rfl, (h.cell 4).trans rfl⟩
end
/-- A plan while it is made: what it answers in, the plan, its map of blobs, its map of blocks. -/
structure PW (w0 w : World) (rc pb pm rq kq : Nat) (nx : List Bb) (s : Sp) : Prop where
  bel : Below w0.heap.size w0 w
  res : Blk w rc 128 #[.map none, .pointer none, .slice none 0 0]
  p : Blk w pb 128 #[.map (some pm), .pointer (some ⟨rq, 0, none⟩), .slice none 0 0]
  map : BMp w pm nx
  room : Mp w rq kq s
  ne : rc ≠ pb
  ge : w0.heap.size ≤ rc ∧ w0.heap.size ≤ pb ∧ w0.heap.size ≤ pm ∧ w0.heap.size ≤ rq ∧ w0.heap.size ≤ kq
section
variable {w0 w w' : World} {rc pb pm rq kq : Nat} {nx nx' : List Bb} {s s' : Sp}
theorem PW.on (h : PW w0 w rc pb pm rq kq nx s) (hb : Below w.heap.size w w') : PW w0 w' rc pb pm rq kq nx s :=
  ⟨h.bel.trans (hb.mono h.bel.size), h.res.keep (hb.block _ h.res.lt), h.p.keep (hb.block _ h.p.lt), h.map.bel hb, h.room.keep (hb.block _ h.room.blk.lt) (hb.block _ h.room.row.lt), h.ne, h.ge⟩
/-- All is kept but one block, which is none of the plan's. -/
theorem PW.but (h : PW w0 w rc pb pm rq kq nx s) {g : Nat} {t : TypeId} {cs : Array Value} (hg : Blk w g t cs) (ht : t ≠ 128) (ht2 : t ≠ 173) (ht3 : t ≠ 4) (hw : w.grownBy w' (some g)) (hge : w0.heap.size ≤ g) : PW w0 w' rc pb pm rq kq nx s :=
  have k : ∀ x, x < w.heap.size → x ≠ g → w'.heap[x]? = w.heap[x]? := fun x hx hn => hw.block x hx (fun e => hn (by injection e))
  ⟨h.bel.grown hw h.bel.size (fun k hk => by injection hk with hk; omega), h.res.keep (k _ h.res.lt (Blk.ne h.res hg (Ne.symm ht))), h.p.keep (k _ h.p.lt (Blk.ne h.p hg (Ne.symm ht))), h.map.keep (k _ h.map.lt (h.map.ne hg)), h.room.keep (k _ h.room.blk.lt (Blk.ne h.room.blk hg (Ne.symm ht2))) (k _ h.room.row.lt (Blk.ne h.room.row hg (Ne.symm ht3))), h.ne, h.ge⟩
/-- The map of blobs changes. -/
theorem PW.put (h : PW w0 w rc pb pm rq kq nx s) (hm : BMp w' pm nx') (hw : w.grownBy w' (some pm)) : PW w0 w' rc pb pm rq kq nx' s :=
  have k : ∀ x, x < w.heap.size → x ≠ pm → w'.heap[x]? = w.heap[x]? := fun x hx hn => hw.block x hx (fun e => hn (by injection e))
  ⟨h.bel.grown hw h.bel.size (fun k hk => by injection hk with hk; have := h.ge; omega), h.res.keep (k _ h.res.lt (h.map.ne h.res).symm), h.p.keep (k _ h.p.lt (h.map.ne h.p).symm), hm, h.room.keep (k _ h.room.blk.lt (h.map.ne h.room.blk).symm) (k _ h.room.row.lt (h.map.ne h.room.row).symm), h.ne, h.ge⟩
/-- The map of blocks changes. -/
theorem PW.left (h : PW w0 w rc pb pm rq kq nx s) (hL : MLeft w w' rq kq s') : PW w0 w' rc pb pm rq kq nx s' :=
  ⟨h.bel.trans (hL.2.below (B := w0.heap.size) (fun j hj => by have := h.ge; omega) h.bel.size), h.res.keep (hL.at_ h.res.lt (Blk.ne h.res h.room.row (by decide))), h.p.keep (hL.at_ h.p.lt (Blk.ne h.p h.room.row (by decide))), h.map.keep (hL.at_ h.map.lt (h.map.ne h.room.row)), hL.1, h.ne, h.ge⟩
/-- Other blocks are kept, too. -/
theorem PW.put_keep (h : PW w0 w rc pb pm rq kq nx s) (hw : w.grownBy w' (some pm)) {g : Nat} {t : TypeId} {cs : Array Value} (hg : Blk w g t cs) : Blk w' g t cs := hg.keep (hw.block _ hg.lt (fun e => h.map.ne hg (by injection e with e; exact e.symm)))
theorem PW.left_keep (h : PW w0 w rc pb pm rq kq nx s) (hL : MLeft w w' rq kq s') {g : Nat} {t : TypeId} {cs : Array Value} (hg : Blk w g t cs) (ht : t ≠ 4) : Blk w' g t cs := hg.keep (hL.at_ hg.lt (Blk.ne hg h.room.row ht))
theorem PW.cells (h : PW w0 w rc pb pm rq kq nx s) : w.cell? ⟨pb, 0, none⟩ = some (.map (some pm)) ∧ w.cell? ⟨pb, 1, none⟩ = some (.pointer (some ⟨rq, 0, none⟩)) ∧ w.cell? ⟨pb, 2, none⟩ = some (.slice none 0 0) := plB_cells h.p
end
end Go.Proofs.YtadhbjekbfdpiaaGreat
