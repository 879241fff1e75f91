/- Maps of blobs and stores as they lie: what a look, a put, a delete and a length of such a map give; a store as a thing in memory. Nothing is assumed. -/
import Derived.Test.YtdkbpjkoiegflaaGreatStBm
import Derived.Test.YtdkbpjkoiegflaaGreatRtA
import Derived.Test.YtdkbpjkoiegflaaGreatSpCopy
import Derived.Test.YtdkbpjkoiegflaaGreatOb
import Derived.Maps.RangeWalk
namespace Go.Proofs.YtdkbpjkoiegflaaGreat
open Go.RowKit

theorem Tryz.lawStr : Maps.Keyed Tryz.prog 9 := Maps.string_keyed Tryz.underlying9
theorem Tryz.zeroBlob (w : World) : (zeroValue 90).run Tryz.prog w = .ok bb0.val w := by kernel_rfl
theorem key_str {nm : List UInt8} (h : nm.length ≤ maxLen) : keyOf Tryz.prog 9 (.string (str nm)) = some (.string nm) := by
  have := Go.WideMaps.keyOf_string_mk (P := Tryz.prog) Tryz.underlying9 (s := str nm) (by rw [str_size]; exact h)
  rw [this, str_data]
/-- A map of blobs, their names rising, in block b. -/
def BMp (w : World) (b : Nat) (L : List Bb) : Prop := w.ownsMap (H := Unit) Tryz.prog 9 rB b L.length (bD L)
/-- Is there a blob of this name? -/
def isB (L : List Bb) (nm : List UInt8) : Bool := (fnd L nm).isSome
def getB (L : List Bb) (nm : List UInt8) : Bb := (fnd L nm).getD bb0
theorem isB_dec (L : List Bb) (nm : List UInt8) : decide (nm ∈ L.map Bb.nm) = isB L nm := by
  unfold isB
  cases h : fnd L nm with
  | none => simpa using fnd_none.1 h
  | some x =>
    obtain ⟨h1, h2⟩ := fnd_some h
    simp only [Option.isSome_some, decide_eq_true_eq, List.mem_map]
    exact ⟨x, h1, h2⟩
section
variable {w w' : World} {b : Nat} {L : List Bb}
theorem BMp.lt (h : BMp w b L) : b < w.heap.size := World.ownsMap.lt h
theorem BMp.of {n : Nat} (h : w.ownsMap (H := Unit) Tryz.prog 9 rB b n (bD L)) : BMp w b L := by
  obtain ⟨es, clock, h1, h2, h3, h4⟩ := h
  refine ⟨es, clock, h1, h2, ?_, h4⟩
  have h5 := bD_size L
  rw [h4] at h5
  simp [Maps.size, length_sorted] at h5
  omega
theorem BMp.keep (h : BMp w b L) (hk : w'.heap[b]? = w.heap[b]?) : BMp w' b L := by
  obtain ⟨es, clock, h1, h2, h3, h4⟩ := h
  exact ⟨es, clock, hk.trans h1, h2, h3, h4⟩
theorem BMp.bel (h : BMp w b L) (hb : Below w.heap.size w w') : BMp w' b L := h.keep (hb.block b h.lt)
theorem BMp.grown (h : BMp w b L) {row : Option Nat} (hg : w.grownBy w' row) (hr : some b ≠ row) : BMp w' b L := h.keep (hg.block b h.lt hr)
theorem BMp.made (w : World) : BMp (w.alloc (.map #[] 0)) w.heap.size [] := World.ownsMap_made (H := Unit) w Tryz.prog 9 rB
/-- A map's block is no row of cells. -/
theorem BMp.ne (h : BMp w b L) {g : Nat} {t : TypeId} {cs : Array Value} (hg : Blk w g t cs) : b ≠ g := by
  obtain ⟨es, clock, h1, _⟩ := h
  rintro rfl
  have := h1.symm.trans hg
  injection this with this
  cases this
set_option maxRecDepth 100000 in
theorem BMp.look (h : BMp w b L) {nm : List UInt8} (hn : nm.length ≤ maxLen) : (Instr.lookup 122 (.map (some b)) (.string (str nm)) true).run Tryz.prog w = .ok (.tuple #[(getB L nm).val, .bool (isB L nm)]) w := by
  obtain ⟨v, ps, h1, h2⟩ := World.ownsMap.look_ok h Tryz.lawStr Tryz.underlying122 (Tryz.zeroBlob w) (rB_val bb0) (key_str hn)
  rw [bD_at] at h2
  obtain ⟨x, rfl, hx⟩ := rB_inv h2
  injection hx with hx
  have e : getB L nm = x := bd_inj hx
  rw [h1, bD_has, isB_dec, e]
set_option maxRecDepth 100000 in
theorem BMp.get (h : BMp w b L) {nm : List UInt8} (hn : nm.length ≤ maxLen) : (Instr.lookup 122 (.map (some b)) (.string (str nm)) false).run Tryz.prog w = .ok (getB L nm).val w := by
  obtain ⟨v, ps, h1, h2⟩ := World.ownsMap.lookup h Tryz.lawStr Tryz.underlying122 (Tryz.zeroBlob w) (rB_val bb0) (key_str hn)
  rw [bD_at] at h2
  obtain ⟨x, rfl, hx⟩ := rB_inv h2
  injection hx with hx
  have e : getB L nm = x := bd_inj hx
  rw [h1, e]
set_option maxRecDepth 100000 in
theorem BMp.len (h : BMp w b L) (ty : TypeId) : (Builtin.len_ #[122] ty #[.map (some b)]).run Tryz.prog w = .ok (.int .i64 (L.length : Int)) w := by
  have := World.ownsMap.len h Tryz.underlying122 ty
  rw [bD_size] at this
  exact this
set_option maxRecDepth 100000 in
theorem BMp.put (h : BMp w b L) (x : Bb) (hn : x.nm.length ≤ maxLen) (hl : L.length < maxLen) : ∃ w', (Instr.mapUpdate 122 (.map (some b)) (.string (str x.nm)) x.val).run Tryz.prog w = .ok () w' ∧ BMp w' b (with_ (without L x.nm) x) ∧ w.grownBy w' (some b) := by
  obtain ⟨w', h1, h2, h3⟩ := World.ownsMap.update h Tryz.lawStr Tryz.underlying122 hl (key_str hn) (rB_val x)
  rw [bD_put] at h2
  exact ⟨w', h1, BMp.of h2, h3⟩
set_option maxRecDepth 100000 in
theorem BMp.del (h : BMp w b L) {nm : List UInt8} (hn : nm.length ≤ maxLen) (ty : TypeId) : ∃ w', (Builtin.delete_ #[122, 9] ty #[.map (some b), .string (str nm)]).run Tryz.prog w = .ok (.tuple #[]) w' ∧ BMp w' b (without L nm) ∧ w.grownBy w' (some b) := by
  obtain ⟨w', h1, h2, h3⟩ := World.ownsMap.drop h Tryz.lawStr Tryz.underlying122 (key_str hn) ty
  rw [bD_del] at h2
  exact ⟨w', h1, BMp.of h2, h3.grown⟩
end

/-- m[k] = v, op level. -/
theorem wp_bmPut {w : World} {b : Nat} {L : List Bb} {op : Oper} {a : Act} {K : Act → World → Prop} {Q : Exit → Act → World → Prop} (m x v : Operand) (ho : op.op = .mapUpdate 122 m x v) (h : BMp w b L) (hm : a.eval m = .map (some b)) (y : Bb) (hx : a.eval x = .string (str y.nm)) (hv : a.eval v = (.agg #[.string (str (y).nm), .int .i64 (y).k.t, .int .i64 (y).k.c, .int .i64 (y).k.e, .int .i64 (y).b, .int .i64 (y).p.k.t, .int .i64 (y).p.k.c, .int .i64 (y).p.k.e, .int .i64 (y).p.id, .int .i64 (y).p.ver, .int .i64 (y).sz])) (hn : y.nm.length ≤ maxLen) (hl : L.length < maxLen)
    (hK : ∀ w', BMp w' b (with_ (without L y.nm) y) → w.grownBy w' (some b) → K (a.put op.dst undef) w') : op.wp Tryz.prog a w K Q := by
  obtain ⟨w', h1, h2, h3⟩ := h.put y hn hl
  have h1' : (Instr.mapUpdate 122 (.map (some b)) (.string (str y.nm)) (.agg #[.string (str (y).nm), .int .i64 (y).k.t, .int .i64 (y).k.c, .int .i64 (y).k.e, .int .i64 (y).b, .int .i64 (y).p.k.t, .int .i64 (y).p.k.c, .int .i64 (y).p.k.e, .int .i64 (y).p.id, .int .i64 (y).p.ver, .int .i64 (y).sz])).run Tryz.prog w = .ok () w' := h1
  unfold Oper.wp
  simp only [execOp, ho, hm, hx, hv, Sem.run_bind, h1', Result.andThen_ok, Sem.run_pure]
  exact hK w' h2 h3
theorem wpList_bmPut {w : World} {b : Nat} {L : List Bb} {ops : Array Oper} {rest : List Oper} {op : Oper} {a : Act} {Q : Exit → Act → World → Prop} (hgd : op.guard = none) (m x v : Operand) (ho : op.op = .mapUpdate 122 m x v) (h : BMp w b L) (hm : a.eval m = .map (some b)) (y : Bb) (hx : a.eval x = .string (str y.nm)) (hv : a.eval v = (.agg #[.string (str (y).nm), .int .i64 (y).k.t, .int .i64 (y).k.c, .int .i64 (y).k.e, .int .i64 (y).b, .int .i64 (y).p.k.t, .int .i64 (y).p.k.c, .int .i64 (y).p.k.e, .int .i64 (y).p.id, .int .i64 (y).p.ver, .int .i64 (y).sz])) (hn : y.nm.length ≤ maxLen) (hl : L.length < maxLen)
    (hK : ∀ w', BMp w' b (with_ (without L y.nm) y) → w.grownBy w' (some b) → wpList Tryz.prog ops Q rest (a.put op.dst undef) w') : wpList Tryz.prog ops Q (op :: rest) a w :=
  wpList_plain hgd fun _ hK' => wp_bmPut m x v ho h hm y hx hv hn hl fun w' h1 h2 => hK' _ _ (hK w' h1 h2)
/-- make(map[K]V, n). -/
theorem run_makeMapN {t k e : TypeId} (hu : Tryz.prog.underlying t = some (.map k e)) (n : Int) (w : World) : (Instr.makeMap t (some (.int .i64 n))).run Tryz.prog w = .ok (.map (some w.heap.size)) (w.alloc (.map #[] 0)) := by
  simp [Instr.makeMap, run_underlying hu, asInt, asIntOf, Result.andThen]
/-- Which blocks a store's map has: those of the root and of its blobs are taken. -/
structure Rm (s : Sp) (n : Nat) (L : List Bb) : Prop where
  len : s.T.length = n
  r : s.r = 2
  tk : ∀ i : Nat, i < n → (s.T[i]? = some true ↔ (i < 2 ∨ ∃ x ∈ L, x.b = (i : Int)))
/-- The cells of a store. -/
def soCells (gd gv gc mb rb : Nat) (dn : Bool) : Array Value := #[.pointer (some ⟨gd, 0, none⟩), .pointer (some ⟨gv, 0, none⟩), .pointer (some ⟨gc, 0, none⟩), .map (some mb), .pointer (some ⟨rb, 0, none⟩), .bool dn]
/-- A store as a thing: its own block, its map of blobs, its map of blocks. -/
structure SoB (w : World) (gs gd gv gc n : Nat) (L : List Bb) (dn : Bool) (mb rb k : Nat) (s : Sp) : Prop where
  blk : Blk w gs 124 (soCells gd gv gc mb rb dn)
  map : BMp w mb L
  room : Mp w rb k s
  rm : Rm s n L
def StO (gs gd gv gc n : Nat) (L : List Bb) (dn : Bool) : Ob := fun w F => ∃ mb rb k s, SoB w gs gd gv gc n L dn mb rb k s ∧ ∀ j, F j ↔ j = gs ∨ j = mb ∨ j = rb ∨ j = k
section
variable {w w' : World} {gs gd gv gc n mb rb k : Nat} {L : List Bb} {dn : Bool} {s : Sp}
theorem Blk.ne {g g' : Nat} {t t' : TypeId} {cs cs' : Array Value} (h : Blk w g t cs) (h' : Blk w g' t' cs') (ht : t ≠ t') : g ≠ g' := by
  rintro rfl
  have := h.symm.trans h'
  injection this with this
  injection this with _ h2 _
  exact ht h2
theorem SoB.ne (h : SoB w gs gd gv gc n L dn mb rb k s) : mb ≠ gs ∧ rb ≠ gs ∧ k ≠ gs ∧ mb ≠ rb ∧ mb ≠ k ∧ rb ≠ k :=
  ⟨h.map.ne h.blk, (Blk.ne h.room.blk h.blk (by decide)), (Blk.ne h.room.row h.blk (by decide)), h.map.ne h.room.blk, h.map.ne h.room.row, h.room.ne⟩
theorem SoB.keep (h : SoB w gs gd gv gc n L dn mb rb k s) (h1 : w'.heap[gs]? = w.heap[gs]?) (h2 : w'.heap[mb]? = w.heap[mb]?) (h3 : w'.heap[rb]? = w.heap[rb]?) (h4 : w'.heap[k]? = w.heap[k]?) : SoB w' gs gd gv gc n L dn mb rb k s :=
  ⟨h.blk.keep h1, h.map.keep h2, h.room.keep h3 h4, h.rm⟩
theorem SoB.lt (h : SoB w gs gd gv gc n L dn mb rb k s) : gs < w.heap.size ∧ mb < w.heap.size ∧ rb < w.heap.size ∧ k < w.heap.size := ⟨h.blk.lt, h.map.lt, h.room.blk.lt, h.room.row.lt⟩
theorem SoB.bel (h : SoB w gs gd gv gc n L dn mb rb k s) (hb : Below w.heap.size w w') : SoB w' gs gd gv gc n L dn mb rb k s :=
  h.keep (hb.block _ h.lt.1) (hb.block _ h.lt.2.1) (hb.block _ h.lt.2.2.1) (hb.block _ h.lt.2.2.2)
theorem StO.ok (gs gd gv gc n : Nat) (L : List Bb) (dn : Bool) : (StO gs gd gv gc n L dn).Ok := by
  refine ⟨?_, ?_⟩
  · rintro w w' F ⟨mb, rb, k, s, h, hF⟩ _ hk
    exact ⟨mb, rb, k, s, h.keep (hk _ ((hF _).2 (.inl rfl))) (hk _ ((hF _).2 (.inr (.inl rfl)))) (hk _ ((hF _).2 (.inr (.inr (.inl rfl))))) (hk _ ((hF _).2 (.inr (.inr (.inr rfl))))), hF⟩
  · rintro w F ⟨mb, rb, k, s, h, hF⟩ j hj
    have := h.lt
    rcases (hF j).1 hj with rfl | rfl | rfl | rfl
    · exact this.1
    · exact this.2.1
    · exact this.2.2.1
    · exact this.2.2.2
theorem SoB.cells (h : SoB w gs gd gv gc n L dn mb rb k s) : w.cell? ⟨gs, 0, none⟩ = some (.pointer (some ⟨gd, 0, none⟩)) ∧ w.cell? ⟨gs, 1, none⟩ = some (.pointer (some ⟨gv, 0, none⟩)) ∧ w.cell? ⟨gs, 2, none⟩ = some (.pointer (some ⟨gc, 0, none⟩)) ∧ w.cell? ⟨gs, 3, none⟩ = some (.map (some mb)) ∧ w.cell? ⟨gs, 4, none⟩ = some (.pointer (some ⟨rb, 0, none⟩)) ∧ w.cell? ⟨gs, 5, none⟩ = some (.bool dn) :=
  ⟨(h.blk.cell 0).trans rfl, (h.blk.cell 1).trans rfl, (h.blk.cell 2).trans rfl, (h.blk.cell 3).trans rfl, (h.blk.cell 4).trans rfl, (h.blk.cell 5).trans rfl⟩
end
/-- A device, a vault, a cell and a store on them. -/
def TS (gd : Nat) (d : St) (gv : Nat) (v : Va) (gc : Nat) (c : Ce) (gs n : Nat) (L : List Bb) (dn : Bool) : Ob := (TC gd d gv v gc c).and (StO gs gd gv gc n L dn)
theorem TS.ok (gd : Nat) (d : St) (gv : Nat) (v : Va) (gc : Nat) (c : Ce) (gs n : Nat) (L : List Bb) (dn : Bool) : (TS gd d gv v gc c gs n L dn).Ok := (TC.ok gd d gv v gc c).and (StO.ok gs gd gv gc n L dn)
theorem ts_t (gs gd gv gc n : Nat) (L : List Bb) (dn : Bool) : Foc fun P => P.and (StO gs gd gv gc n L dn) := Foc.one Foc.self (StO.ok _ _ _ _ _ _ _)
theorem ts_s (gd : Nat) (d : St) (gv : Nat) (v : Va) (gc : Nat) (c : Ce) : Foc fun P => (TC gd d gv v gc c).and P := Foc.two Foc.self (TC.ok gd d gv v gc c)
/-- A store in its place: its blocks. -/
theorem so_at {C : Ob → Ob} {w wr : World} {X : Nat → Prop} {gs gd gv gc n : Nat} {L : List Bb} {dn : Bool} (hC : Foc C) (h : On w (C (StO gs gd gv gc n L dn)) wr X) : ∃ mb rb k s, SoB wr gs gd gv gc n L dn mb rb k s := by
  obtain ⟨F, ⟨mb, rb, k, s, h1, _⟩, _⟩ := h.at_ hC
  exact ⟨mb, rb, k, s, h1⟩
end Go.Proofs.YtdkbpjkoiegflaaGreat
