import Derived.Test.YtolaojkcofbkhaaGreatStA
import Derived.Maps.OwnSet
import Derived.Maps.Range
import Derived.Sort.KeysCollected
import Derived.Test.YtolaojkcofbkhaaGreatRtA
import Derived.Test.YtolaojkcofbkhaaGreatSpCopy
import Derived.Maps.RangeWalk
namespace Go.Proofs.YtolaojkcofbkhaaGreat
set_option maxRecDepth 100000
open Go.RowKit
def Bb.cells (x : Bb) : List Value := [.string (str x.nm), .int .i64 x.k.t, .int .i64 x.k.c, .int .i64 x.k.e, .int .i64 x.b, .int .i64 x.p.k.t, .int .i64 x.p.k.c, .int .i64 x.p.k.e, .int .i64 x.p.id, .int .i64 x.p.ver, .int .i64 x.sz]
def bcs (l : List Bb) : List Value := l.flatMap Bb.cells
theorem bcs_app (a b : List Bb) : bcs (a ++ b) = bcs a ++ bcs b := by simp [bcs]
theorem bcs_one (x : Bb) : bcs [x] = x.cells := by simp [bcs]
theorem bcs_len (l : List Bb) : (bcs l).length = l.length * 11 := by
 induction l with
 | nil => rfl
 | cons x r ih =>
  show (x.cells ++ bcs r).length = _
  rw [List.length_append, ih]
  simp [Bb.cells]
  omega
theorem bb_cell (x : Bb) : ∀ u ∈ x.cells, u.oneCell' = true := by
 intro u hu
 simp only [Bb.cells, List.mem_cons, List.not_mem_nil, or_false] at hu
 rcases hu with rfl | rfl | rfl | rfl | rfl | rfl | rfl | rfl | rfl | rfl | rfl <;> rfl
theorem bcs_at (l : List Bb) {j : Nat} (hj : j < l.length) : ∀ t u, l[j].cells[t]? = some u → (bcs l)[j * 11 + t]? = some u := by
 intro t u hu
 have hl : (bcs (l.take j)).length = j * 11 := by rw [bcs_len, List.length_take, Nat.min_eq_left (Nat.le_of_lt hj)]
 have ht := (List.getElem?_eq_some_iff.1 hu).1
 have e : bcs l = bcs (l.take j) ++ (l[j].cells ++ bcs (l.drop (j + 1))) := by
  conv => lhs; rw [show l = l.take j ++ (l[j] :: l.drop (j + 1)) by simp]
  rw [bcs_app]
  rfl
 rw [e, List.getElem?_append_right (by omega), List.getElem?_append_left (by rw [hl]; simp only [Nat.add_sub_cancel_left]; exact ht), hl, Nat.add_sub_cancel_left]
 exact hu
def BRow (T : TypeId) (w : World) (base : Nat) (A : Option Addr) (c : Nat) (l : List Bb) : Prop := w.ownsRow base T 11 (.slice A l.length c) l.length (bcs l)
section
variable {T : TypeId} {w w' : World} {base : Nat} {A : Option Addr} {c : Nat} {l : List Bb}
theorem BRow.keep (h : BRow T w base A c l) (hk : ∀ b, A.map (·.block) = some b → w'.heap[b]? = w.heap[b]?) : BRow T w' base A c l := own_keep h hk
theorem BRow.nil (T : TypeId) (w : World) (base : Nat) : BRow T w base none 0 [] := own_nilrow _ _ _ _
theorem BRow.elem (h : BRow T w base A c l) {j : Nat} (hj : j < l.length) : ∃ b, A = some ⟨b, 0, none⟩ ∧ b < w.heap.size ∧ w.rangeAt b (j * 11) l[j].cells := by
 obtain ⟨b, hA, hlt, hr⟩ := own_range h (by omega)
 exact ⟨b, hA, hlt, fun t u hu => by
  have := hr (j * 11 + t) u (bcs_at l hj t u hu)
  rwa [Nat.zero_add] at this⟩
end
def BbB (T : TypeId) (w : World) (b : Nat) (x : Bb) : Prop := Blk w b T x.cells.toArray
theorem bbB_cells {T : TypeId} {w : World} {b : Nat} {x : Bb} (h : BbB T w b x) : w.cell? ⟨b, 0, none⟩ = some (.string (str x.nm)) ∧ w.cell? ⟨b, 1, none⟩ = some (.int .i64 x.k.t) ∧ w.cell? ⟨b, 2, none⟩ = some (.int .i64 x.k.c) ∧ w.cell? ⟨b, 3, none⟩ = some (.int .i64 x.k.e) ∧ w.cell? ⟨b, 4, none⟩ = some (.int .i64 x.b) ∧
 w.cell? ⟨b, 5, none⟩ = some (.int .i64 x.p.k.t) ∧ w.cell? ⟨b, 6, none⟩ = some (.int .i64 x.p.k.c) ∧ w.cell? ⟨b, 7, none⟩ = some (.int .i64 x.p.k.e) ∧ w.cell? ⟨b, 8, none⟩ = some (.int .i64 x.p.id) ∧ w.cell? ⟨b, 9, none⟩ = some (.int .i64 x.p.ver) ∧ w.cell? ⟨b, 10, none⟩ = some (.int .i64 x.sz) :=
 ⟨(Blk.cell h 0).trans rfl, (Blk.cell h 1).trans rfl, (Blk.cell h 2).trans rfl, (Blk.cell h 3).trans rfl, (Blk.cell h 4).trans rfl, (Blk.cell h 5).trans rfl, (Blk.cell h 6).trans rfl, (Blk.cell h 7).trans rfl, (Blk.cell h 8).trans rfl, (Blk.cell h 9).trans rfl, (Blk.cell h 10).trans rfl⟩
def asI : Value → Option Int
 | .int .i64 n => some n
 | _ => none
def asS : Value → Option (List UInt8)
 | .string s => some s.data.toList
 | _ => none
theorem asI_inv {v : Value} {n : Int} (h : asI v = some n) : v = .int .i64 n := by
 unfold asI at h
 split at h
 · injection h with h; rw [h]
 · cases h
theorem asS_inv {v : Value} {n : List UInt8} (h : asS v = some n) : v = .string (str n) := by
 unfold asS at h
 split at h
 · injection h with h; rw [← h]; rfl
 · cases h
def Bb.val (x : Bb) : Value := .agg x.cells.toArray
def bb0 : Bb := ⟨[], ⟨0, 0, 0⟩, 0, ⟨⟨0, 0, 0⟩, 0, 0⟩, 0⟩
def bd (x : Bb) : DataW Unit := .agg [.lit (.string x.nm), .lit (.int .i64 x.k.t), .lit (.int .i64 x.k.c), .lit (.int .i64 x.k.e), .lit (.int .i64 x.b), .lit (.int .i64 x.p.k.t), .lit (.int .i64 x.p.k.c), .lit (.int .i64 x.p.k.e), .lit (.int .i64 x.p.id), .lit (.int .i64 x.p.ver), .lit (.int .i64 x.sz)]
theorem bd_inj {x y : Bb} (h : bd x = bd y) : x = y := by
 obtain ⟨n, ⟨a, b, c⟩, d, ⟨⟨e, f, g⟩, i, j⟩, k⟩ := x
 obtain ⟨n', ⟨a', b', c'⟩, d', ⟨⟨e', f', g'⟩, i', j'⟩, k'⟩ := y
 simp [bd] at h
 simp [h]
def bbOf : List Value → Option Bb
 | [a0, a1, a2, a3, a4, a5, a6, a7, a8, a9, a10] =>
  (asS a0).bind fun n => (asI a1).bind fun a => (asI a2).bind fun b => (asI a3).bind fun c => (asI a4).bind fun d => (asI a5).bind fun e => (asI a6).bind fun f => (asI a7).bind fun g => (asI a8).bind fun i => (asI a9).bind fun j => (asI a10).map fun k => ⟨n, ⟨a, b, c⟩, d, ⟨⟨e, f, g⟩, i, j⟩, k⟩
 | _ => none
theorem bbOf_cells (x : Bb) : bbOf x.cells = some x := by
 simp [bbOf, Bb.cells, asS, asI, str]
theorem bbOf_inv {l : List Value} {x : Bb} (h : bbOf l = some x) : l = x.cells := by
 unfold bbOf at h
 split at h
 · simp only [Option.bind_eq_some_iff, Option.map_eq_some_iff] at h
   obtain ⟨n, h0, a, h1, b, h2, c, h3, d, h4, e, h5, f, h6, g, h7, i, h8, j, h9, k, h10, rfl⟩ := h
   rw [asS_inv h0, asI_inv h1, asI_inv h2, asI_inv h3, asI_inv h4, asI_inv h5, asI_inv h6, asI_inv h7, asI_inv h8, asI_inv h9, asI_inv h10]
   rfl
 · cases h
def rB : Value → Option (DataW Unit × List MemPlace)
 | .agg cs => (bbOf cs.toList).map fun x => (bd x, [])
 | _ => none
theorem rB_val (x : Bb) : rB x.val = some (bd x, []) := by
 simp [rB, Bb.val, bbOf_cells]
theorem rB_inv {v : Value} {z : DataW Unit × List MemPlace} (h : rB v = some z) : ∃ x : Bb, v = x.val ∧ z = (bd x, []) := by
 unfold rB at h
 split at h
 · rename_i cs
   rw [Option.map_eq_some_iff] at h
   obtain ⟨x, h1, rfl⟩ := h
   refine ⟨x, ?_, rfl⟩
   unfold Bb.val
   rw [← bbOf_inv h1]
 · cases h
def bD (L : List Bb) : DataW Unit := .map (L.map fun x => (Lit.string x.nm, bd x))
theorem before_less : ∀ a b : List UInt8, bytesBefore a b = Op.bytesLess a b
 | [], [] => rfl
 | [], _ :: _ => rfl
 | _ :: _, [] => rfl
 | a :: x, b :: y => by
  unfold bytesBefore Op.bytesLess
  rw [before_less x y]
theorem same_dec (x : Bb) (nm : List UInt8) : (!(Lit.string x.nm).sameKey (.string nm)) = decide (x.nm ≠ nm) := by
 show (!(x.nm == nm)) = _
 by_cases h : x.nm = nm
 · simp [h]
 · simp [h]
theorem bD_del (L : List Bb) (nm : List UInt8) : (bD L).del (.string nm) = bD (without L nm) := by
 show DataW.map ((L.map fun x => (Lit.string x.nm, bd x)).filter fun p => !p.1.sameKey (.string nm)) = DataW.map ((without L nm).map fun x => (Lit.string x.nm, bd x))
 unfold without
 rw [List.filter_map]
 congr 2
 apply List.filter_congr
 intro x _
 exact same_dec x nm
theorem insert_map (b : Bb) : ∀ L : List Bb, DataW.insert (Lit.string b.nm, bd b) (L.map fun x => (Lit.string x.nm, bd x)) = (with_ L b).map fun x => (Lit.string x.nm, bd x)
 | [] => rfl
 | x :: r => by
  rw [List.map_cons, DataW.insert, with_]
  have e : (Lit.string b.nm).before (Lit.string x.nm) = Op.bytesLess b.nm x.nm := before_less _ _
  dsimp only
  rw [e]
  split
  · rfl
  · rw [insert_map b r, List.map_cons]
theorem bD_put (L : List Bb) (b : Bb) : (bD L).put (.string b.nm) (bd b) = bD (with_ (without L b.nm) b) := by
 have h := bD_del L b.nm
 have h2 : DataW.map ((L.map fun x => (Lit.string x.nm, bd x)).filter fun p => !p.1.sameKey (.string b.nm)) = DataW.map ((without L b.nm).map fun x => (Lit.string x.nm, bd x)) := h
 injection h2 with h2
 show DataW.map (DataW.insert (Lit.string b.nm, bd b) ((L.map fun x => (Lit.string x.nm, bd x)).filter fun p => !p.1.sameKey (.string b.nm))) = _
 rw [h2, insert_map]
 rfl
theorem bD_has (L : List Bb) (nm : List UInt8) : Maps.has (bD L) (.string nm) = decide (nm ∈ L.map Bb.nm) := by
 unfold bD
 rw [Maps.has_eq, List.any_map, Bool.eq_iff_iff, List.any_eq_true, decide_eq_true_eq, List.mem_map]
 constructor
 · rintro ⟨x, h1, h2⟩
   exact ⟨x, h1, by simpa [Lit.sameKey] using h2⟩
 · rintro ⟨x, h1, h2⟩
   exact ⟨x, h1, by simp [Lit.sameKey, h2]⟩
def fnd (L : List Bb) (nm : List UInt8) : Option Bb := L.find? fun x => decide (x.nm = nm)
theorem bD_at (L : List Bb) (nm : List UInt8) (z : Bb) : (bD L).atKey (.string nm) (bd z) = bd ((fnd L nm).getD z) := by
 unfold bD DataW.atKey fnd
 dsimp only
 rw [List.find?_map]
 have e : ((fun p : Lit × DataW Unit => p.1.sameKey (.string nm)) ∘ fun x : Bb => (Lit.string x.nm, bd x)) = fun x : Bb => decide (x.nm = nm) := by
  funext x
  show (x.nm == nm) = _
  by_cases h : x.nm = nm <;> simp [h]
 rw [e]
 cases L.find? fun x => decide (x.nm = nm) <;> rfl
theorem bD_size (L : List Bb) : Maps.size (bD L) = L.length := by
 unfold bD
 rw [Maps.size_eq, List.length_map]
theorem bD_keys (L : List Bb) : strKeys (bD L) = L.map Bb.nm := by
 show (L.map fun x => (Lit.string x.nm, bd x)).map (fun p => strOf p.1) = _
 rw [List.map_map]
 rfl
theorem less_lt : ∀ {a b : List UInt8}, Op.bytesLess a b = true ↔ a < b
 | [], [] => by simp [Op.bytesLess]
 | [], _ :: _ => by simp [Op.bytesLess]
 | _ :: _, [] => by simp [Op.bytesLess]
 | a :: x, b :: y => by
  rw [Op.bytesLess, List.cons_lt_cons_iff, Bool.or_eq_true, Bool.and_eq_true, decide_eq_true_eq, beq_iff_eq, less_lt (a := x) (b := y)]
theorem names_sort {L : List Bb} (h : L.Pairwise risen) {ss : List (List UInt8)} (hp : ss.Perm (L.map Bb.nm)) : ss.mergeSort (fun x y => decide (x ≤ y)) = L.map Bb.nm := by
 rw [show ss.mergeSort (fun x y => decide (x ≤ y)) = (L.map Bb.nm).mergeSort (fun x y => decide (x ≤ y)) from mergeSort_of_perm hp]
 apply List.mergeSort_of_pairwise
 rw [List.pairwise_map]
 refine h.imp fun {a b} hab => ?_
 simp only [decide_eq_true_eq]
 exact List.le_of_lt (less_lt.1 hab)
theorem fnd_mem {L : List Bb} (h : L.Pairwise risen) {x : Bb} (hx : x ∈ L) : fnd L x.nm = some x := find_name h hx
theorem fnd_none {L : List Bb} {nm : List UInt8} : fnd L nm = none ↔ nm ∉ L.map Bb.nm := by
 unfold fnd
 rw [List.find?_eq_none, List.mem_map]
 constructor
 · rintro h ⟨x, h1, h2⟩
   exact h x h1 (by simp [h2])
 · intro h x hx
   simp only [decide_eq_true_eq]
   exact fun e => h ⟨x, hx, e⟩
theorem fnd_some {L : List Bb} {nm : List UInt8} {x : Bb} (h : fnd L nm = some x) : x ∈ L ∧ x.nm = nm := ⟨List.mem_of_find?_eq_some h, by have := List.find?_some h; simpa using this⟩
theorem Tryz.lawStr : Maps.Keyed Tryz.prog 9 := Maps.string_keyed Tryz.underlying9
theorem Tryz.zeroBlob (w : World) : (zeroValue 90).run Tryz.prog w = .ok bb0.val w := by kernel_rfl
theorem key_str {nm : List UInt8} (h : nm.length ≤ maxLen) : keyOf Tryz.prog 9 (.string (str nm)) = some (.string nm) := by
 have := Go.WideMaps.keyOf_string_mk (P := Tryz.prog) Tryz.underlying9 (s := str nm) (by rw [str_size]; exact h)
 rw [this, str_data]
def BMp (w : World) (b : Nat) (L : List Bb) : Prop := w.ownsMap (H := Unit) Tryz.prog 9 rB b L.length (bD L)
def isB (L : List Bb) (nm : List UInt8) : Bool := (fnd L nm).isSome
def getB (L : List Bb) (nm : List UInt8) : Bb := (fnd L nm).getD bb0
theorem isB_dec (L : List Bb) (nm : List UInt8) : decide (nm ∈ L.map Bb.nm) = isB L nm := by
 unfold isB
 cases h : fnd L nm with
 | none => simpa using fnd_none.1 h
 | some x =>
  obtain ⟨h1, h2⟩ := fnd_some h
  simp only [Option.isSome_some, decide_eq_true_eq, List.mem_map]
  exact ⟨x, h1, h2⟩
section
variable {w w' : World} {b : Nat} {L : List Bb}
theorem BMp.lt (h : BMp w b L) : b < w.heap.size := World.ownsMap.lt h
theorem BMp.of {n : Nat} (h : w.ownsMap (H := Unit) Tryz.prog 9 rB b n (bD L)) : BMp w b L := by
 obtain ⟨es, clock, h1, h2, h3, h4⟩ := h
 refine ⟨es, clock, h1, h2, ?_, h4⟩
 have h5 := bD_size L
 rw [h4] at h5
 simp [Maps.size, length_sorted] at h5
 omega
theorem BMp.keep (h : BMp w b L) (hk : w'.heap[b]? = w.heap[b]?) : BMp w' b L := by
 obtain ⟨es, clock, h1, h2, h3, h4⟩ := h
 exact ⟨es, clock, hk.trans h1, h2, h3, h4⟩
theorem BMp.bel (h : BMp w b L) (hb : Below w.heap.size w w') : BMp w' b L := h.keep (hb.block b h.lt)
theorem BMp.made (w : World) : BMp (w.alloc (.map #[] 0)) w.heap.size [] := World.ownsMap_made (H := Unit) w Tryz.prog 9 rB
theorem BMp.ne (h : BMp w b L) {g : Nat} {t : TypeId} {cs : Array Value} (hg : Blk w g t cs) : b ≠ g := by
 obtain ⟨es, clock, h1, _⟩ := h
 rintro rfl
 have := h1.symm.trans hg
 injection this with this
 cases this
theorem BMp.look (h : BMp w b L) {nm : List UInt8} (hn : nm.length ≤ maxLen) : (Instr.lookup 122 (.map (some b)) (.string (str nm)) true).run Tryz.prog w = .ok (.tuple #[(getB L nm).val, .bool (isB L nm)]) w := by
 obtain ⟨v, ps, h1, h2⟩ := World.ownsMap.look_ok h Tryz.lawStr Tryz.underlying122 (Tryz.zeroBlob w) (rB_val bb0) (key_str hn)
 rw [bD_at] at h2
 obtain ⟨x, rfl, hx⟩ := rB_inv h2
 injection hx with hx
 have e : getB L nm = x := bd_inj hx
 rw [h1, bD_has, isB_dec, e]
theorem BMp.get (h : BMp w b L) {nm : List UInt8} (hn : nm.length ≤ maxLen) : (Instr.lookup 122 (.map (some b)) (.string (str nm)) false).run Tryz.prog w = .ok (getB L nm).val w := by
 obtain ⟨v, ps, h1, h2⟩ := World.ownsMap.lookup h Tryz.lawStr Tryz.underlying122 (Tryz.zeroBlob w) (rB_val bb0) (key_str hn)
 rw [bD_at] at h2
 obtain ⟨x, rfl, hx⟩ := rB_inv h2
 injection hx with hx
 have e : getB L nm = x := bd_inj hx
 rw [h1, e]
theorem BMp.len (h : BMp w b L) (ty : TypeId) : (Builtin.len_ #[122] ty #[.map (some b)]).run Tryz.prog w = .ok (.int .i64 (L.length : Int)) w := by
 have := World.ownsMap.len h Tryz.underlying122 ty
 rw [bD_size] at this
 exact this
theorem BMp.put (h : BMp w b L) (x : Bb) (hn : x.nm.length ≤ maxLen) (hl : L.length < maxLen) : ∃ w', (Instr.mapUpdate 122 (.map (some b)) (.string (str x.nm)) x.val).run Tryz.prog w = .ok () w' ∧ BMp w' b (with_ (without L x.nm) x) ∧ w.grownBy w' (some b) := by
 obtain ⟨w', h1, h2, h3⟩ := World.ownsMap.update h Tryz.lawStr Tryz.underlying122 hl (key_str hn) (rB_val x)
 rw [bD_put] at h2
 exact ⟨w', h1, BMp.of h2, h3⟩
theorem BMp.del (h : BMp w b L) {nm : List UInt8} (hn : nm.length ≤ maxLen) (ty : TypeId) : ∃ w', (Builtin.delete_ #[122, 9] ty #[.map (some b), .string (str nm)]).run Tryz.prog w = .ok (.tuple #[]) w' ∧ BMp w' b (without L nm) ∧ w.grownBy w' (some b) := by
 obtain ⟨w', h1, h2, h3⟩ := World.ownsMap.drop h Tryz.lawStr Tryz.underlying122 (key_str hn) ty
 rw [bD_del] at h2
 exact ⟨w', h1, BMp.of h2, h3.grown⟩
end
theorem wp_bmPut {w : World} {b : Nat} {L : List Bb} {op : Oper} {a : Act} {K : Act → World → Prop} {Q : Exit → Act → World → Prop} (m x v : Operand) (ho : op.op = .mapUpdate 122 m x v) (h : BMp w b L) (hm : a.eval m = .map (some b)) (y : Bb) (hx : a.eval x = .string (str y.nm)) (hv : a.eval v = (.agg #[.string (str (y).nm), .int .i64 (y).k.t, .int .i64 (y).k.c, .int .i64 (y).k.e, .int .i64 (y).b, .int .i64 (y).p.k.t, .int .i64 (y).p.k.c, .int .i64 (y).p.k.e, .int .i64 (y).p.id, .int .i64 (y).p.ver, .int .i64 (y).sz])) (hn : y.nm.length ≤ maxLen) (hl : L.length < maxLen)
 (hK : ∀ w', BMp w' b (with_ (without L y.nm) y) → w.grownBy w' (some b) → K (a.put op.dst undef) w') : op.wp Tryz.prog a w K Q := by
 obtain ⟨w', h1, h2, h3⟩ := h.put y hn hl
 have h1' : (Instr.mapUpdate 122 (.map (some b)) (.string (str y.nm)) (.agg #[.string (str (y).nm), .int .i64 (y).k.t, .int .i64 (y).k.c, .int .i64 (y).k.e, .int .i64 (y).b, .int .i64 (y).p.k.t, .int .i64 (y).p.k.c, .int .i64 (y).p.k.e, .int .i64 (y).p.id, .int .i64 (y).p.ver, .int .i64 (y).sz])).run Tryz.prog w = .ok () w' := h1
 unfold Oper.wp
 simp only [execOp, ho, hm, hx, hv, Sem.run_bind, h1', Result.andThen_ok, Sem.run_pure]
 exact hK w' h2 h3
theorem wpList_bmPut {w : World} {b : Nat} {L : List Bb} {ops : Array Oper} {rest : List Oper} {op : Oper} {a : Act} {Q : Exit → Act → World → Prop} (hgd : op.guard = none) (m x v : Operand) (ho : op.op = .mapUpdate 122 m x v) (h : BMp w b L) (hm : a.eval m = .map (some b)) (y : Bb) (hx : a.eval x = .string (str y.nm)) (hv : a.eval v = (.agg #[.string (str (y).nm), .int .i64 (y).k.t, .int .i64 (y).k.c, .int .i64 (y).k.e, .int .i64 (y).b, .int .i64 (y).p.k.t, .int .i64 (y).p.k.c, .int .i64 (y).p.k.e, .int .i64 (y).p.id, .int .i64 (y).p.ver, .int .i64 (y).sz])) (hn : y.nm.length ≤ maxLen) (hl : L.length < maxLen)
 (hK : ∀ w', BMp w' b (with_ (without L y.nm) y) → w.grownBy w' (some b) → wpList Tryz.prog ops Q rest (a.put op.dst undef) w') : wpList Tryz.prog ops Q (op :: rest) a w :=
 wpList_plain hgd fun _ hK' => wp_bmPut m x v ho h hm y hx hv hn hl fun w' h1 h2 => hK' _ _ (hK w' h1 h2)
theorem run_makeMapN {t k e : TypeId} (hu : Tryz.prog.underlying t = some (.map k e)) (n : Int) (w : World) : (Instr.makeMap t (some (.int .i64 n))).run Tryz.prog w = .ok (.map (some w.heap.size)) (w.alloc (.map #[] 0)) := by
 simp [Instr.makeMap, run_underlying hu, asInt, asIntOf, Result.andThen]
structure Rm (s : Sp) (n : Nat) (L : List Bb) : Prop where
 len : s.T.length = n
 r : s.r = 2
 tk : ∀ i : Nat, i < n → (s.T[i]? = some true ↔ (i < 2 ∨ ∃ x ∈ L, x.b = (i : Int)))
def soCells (gd gv gc mb rb : Nat) (dn : Bool) : Array Value := #[.pointer (some ⟨gd, 0, none⟩), .pointer (some ⟨gv, 0, none⟩), .pointer (some ⟨gc, 0, none⟩), .map (some mb), .pointer (some ⟨rb, 0, none⟩), .bool dn]
structure SoB (w : World) (gs gd gv gc n : Nat) (L : List Bb) (dn : Bool) (mb rb k : Nat) (s : Sp) : Prop where
 blk : Blk w gs 124 (soCells gd gv gc mb rb dn)
 map : BMp w mb L
 room : Mp w rb k s
 rm : Rm s n L
def StO (gs gd gv gc n : Nat) (L : List Bb) (dn : Bool) : Ob := fun w F => ∃ mb rb k s, SoB w gs gd gv gc n L dn mb rb k s ∧ ∀ j, F j ↔ j = gs ∨ j = mb ∨ j = rb ∨ j = k
section
variable {w w' : World} {gs gd gv gc n mb rb k : Nat} {L : List Bb} {dn : Bool} {s : Sp}
theorem Blk.ne {g g' : Nat} {t t' : TypeId} {cs cs' : Array Value} (h : Blk w g t cs) (h' : Blk w g' t' cs') (ht : t ≠ t') : g ≠ g' := by
 rintro rfl
 have := h.symm.trans h'
 injection this with this
 injection this with _ h2 _
 exact ht h2
theorem SoB.ne (h : SoB w gs gd gv gc n L dn mb rb k s) : mb ≠ gs ∧ rb ≠ gs ∧ k ≠ gs ∧ mb ≠ rb ∧ mb ≠ k ∧ rb ≠ k :=
 ⟨h.map.ne h.blk, (Blk.ne h.room.blk h.blk (by decide)), (Blk.ne h.room.row h.blk (by decide)), h.map.ne h.room.blk, h.map.ne h.room.row, h.room.ne⟩
theorem SoB.keep (h : SoB w gs gd gv gc n L dn mb rb k s) (h1 : w'.heap[gs]? = w.heap[gs]?) (h2 : w'.heap[mb]? = w.heap[mb]?) (h3 : w'.heap[rb]? = w.heap[rb]?) (h4 : w'.heap[k]? = w.heap[k]?) : SoB w' gs gd gv gc n L dn mb rb k s :=
 ⟨h.blk.keep h1, h.map.keep h2, h.room.keep h3 h4, h.rm⟩
theorem SoB.lt (h : SoB w gs gd gv gc n L dn mb rb k s) : gs < w.heap.size ∧ mb < w.heap.size ∧ rb < w.heap.size ∧ k < w.heap.size := ⟨h.blk.lt, h.map.lt, h.room.blk.lt, h.room.row.lt⟩
theorem SoB.bel (h : SoB w gs gd gv gc n L dn mb rb k s) (hb : Below w.heap.size w w') : SoB w' gs gd gv gc n L dn mb rb k s :=
 h.keep (hb.block _ h.lt.1) (hb.block _ h.lt.2.1) (hb.block _ h.lt.2.2.1) (hb.block _ h.lt.2.2.2)
theorem StO.ok (gs gd gv gc n : Nat) (L : List Bb) (dn : Bool) : (StO gs gd gv gc n L dn).Ok := by
 refine ⟨?_, ?_⟩
 · rintro w w' F ⟨mb, rb, k, s, h, hF⟩ _ hk
   exact ⟨mb, rb, k, s, h.keep (hk _ ((hF _).2 (.inl rfl))) (hk _ ((hF _).2 (.inr (.inl rfl)))) (hk _ ((hF _).2 (.inr (.inr (.inl rfl))))) (hk _ ((hF _).2 (.inr (.inr (.inr rfl))))), hF⟩
 · rintro w F ⟨mb, rb, k, s, h, hF⟩ j hj
   have := h.lt
   rcases (hF j).1 hj with rfl | rfl | rfl | rfl
   · exact this.1
   · exact this.2.1
   · exact this.2.2.1
   · exact this.2.2.2
theorem SoB.cells (h : SoB w gs gd gv gc n L dn mb rb k s) : w.cell? ⟨gs, 0, none⟩ = some (.pointer (some ⟨gd, 0, none⟩)) ∧ w.cell? ⟨gs, 1, none⟩ = some (.pointer (some ⟨gv, 0, none⟩)) ∧ w.cell? ⟨gs, 2, none⟩ = some (.pointer (some ⟨gc, 0, none⟩)) ∧ w.cell? ⟨gs, 3, none⟩ = some (.map (some mb)) ∧ w.cell? ⟨gs, 4, none⟩ = some (.pointer (some ⟨rb, 0, none⟩)) ∧ w.cell? ⟨gs, 5, none⟩ = some (.bool dn) :=
 ⟨(h.blk.cell 0).trans rfl, (h.blk.cell 1).trans rfl, (h.blk.cell 2).trans rfl, (h.blk.cell 3).trans rfl, (h.blk.cell 4).trans rfl, (h.blk.cell 5).trans rfl⟩
end
def TS (gd : Nat) (d : St) (gv : Nat) (v : Va) (gc : Nat) (c : Ce) (gs n : Nat) (L : List Bb) (dn : Bool) : Ob := (TC gd d gv v gc c).and (StO gs gd gv gc n L dn)
theorem TS.ok (gd : Nat) (d : St) (gv : Nat) (v : Va) (gc : Nat) (c : Ce) (gs n : Nat) (L : List Bb) (dn : Bool) : (TS gd d gv v gc c gs n L dn).Ok := (TC.ok gd d gv v gc c).and (StO.ok gs gd gv gc n L dn)
theorem ts_t (gs gd gv gc n : Nat) (L : List Bb) (dn : Bool) : Foc fun P => P.and (StO gs gd gv gc n L dn) := Foc.one Foc.self (StO.ok _ _ _ _ _ _ _)
theorem ts_s (gd : Nat) (d : St) (gv : Nat) (v : Va) (gc : Nat) (c : Ce) : Foc fun P => (TC gd d gv v gc c).and P := Foc.two Foc.self (TC.ok gd d gv v gc c)
theorem so_at {C : Ob → Ob} {w wr : World} {X : Nat → Prop} {gs gd gv gc n : Nat} {L : List Bb} {dn : Bool} (hC : Foc C) (h : On w (C (StO gs gd gv gc n L dn)) wr X) : ∃ mb rb k s, SoB wr gs gd gv gc n L dn mb rb k s := by
 obtain ⟨F, ⟨mb, rb, k, s, h1, _⟩, _⟩ := h.at_ hC
 exact ⟨mb, rb, k, s, h1⟩
end Go.Proofs.YtolaojkcofbkhaaGreat
