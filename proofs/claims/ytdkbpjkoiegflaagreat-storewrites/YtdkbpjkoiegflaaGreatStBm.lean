/- Maps of blobs by their names: what such a map reads as, for blobs whose names rise; what is put in, taken out, looked up; its keys. Of no program. Nothing is assumed. -/
import Derived.Test.YtdkbpjkoiegflaaGreatStA
import Derived.Test.YtdkbpjkoiegflaaGreatStMem
import Derived.Maps.OwnSet
import Derived.Maps.Range
import Derived.Sort.KeysCollected
namespace Go.Proofs.YtdkbpjkoiegflaaGreat
open Go.RowKit

def asI : Value → Option Int
  | .int .i64 n => some n
  | _ => none
def asS : Value → Option (List UInt8)
  | .string s => some s.data.toList
  | _ => none
theorem asI_inv {v : Value} {n : Int} (h : asI v = some n) : v = .int .i64 n := by
  unfold asI at h
  split at h
  · injection h with h; rw [h]
  · cases h
theorem asS_inv {v : Value} {n : List UInt8} (h : asS v = some n) : v = .string (str n) := by
  unfold asS at h
  split at h
  · injection h with h; rw [← h]; rfl
  · cases h
/-- A blob as a value; the blob that is nothing. -/
def Bb.val (x : Bb) : Value := .agg x.cells.toArray
def bb0 : Bb := ⟨[], ⟨0, 0, 0⟩, 0, ⟨⟨0, 0, 0⟩, 0, 0⟩, 0⟩
/-- What a blob reads as. -/
def bd (x : Bb) : DataW Unit := .agg [.lit (.string x.nm), .lit (.int .i64 x.k.t), .lit (.int .i64 x.k.c), .lit (.int .i64 x.k.e), .lit (.int .i64 x.b), .lit (.int .i64 x.p.k.t), .lit (.int .i64 x.p.k.c), .lit (.int .i64 x.p.k.e), .lit (.int .i64 x.p.id), .lit (.int .i64 x.p.ver), .lit (.int .i64 x.sz)]
theorem bd_inj {x y : Bb} (h : bd x = bd y) : x = y := by
  obtain ⟨n, ⟨a, b, c⟩, d, ⟨⟨e, f, g⟩, i, j⟩, k⟩ := x
  obtain ⟨n', ⟨a', b', c'⟩, d', ⟨⟨e', f', g'⟩, i', j'⟩, k'⟩ := y
  simp [bd] at h
  simp [h]
def bbOf : List Value → Option Bb
  | [a0, a1, a2, a3, a4, a5, a6, a7, a8, a9, a10] =>
    (asS a0).bind fun n => (asI a1).bind fun a => (asI a2).bind fun b => (asI a3).bind fun c => (asI a4).bind fun d => (asI a5).bind fun e => (asI a6).bind fun f => (asI a7).bind fun g => (asI a8).bind fun i => (asI a9).bind fun j => (asI a10).map fun k => ⟨n, ⟨a, b, c⟩, d, ⟨⟨e, f, g⟩, i, j⟩, k⟩
  | _ => none
theorem bbOf_cells (x : Bb) : bbOf x.cells = some x := by
  simp [bbOf, Bb.cells, asS, asI, str]
theorem bbOf_inv {l : List Value} {x : Bb} (h : bbOf l = some x) : l = x.cells := by
  unfold bbOf at h
  split at h
  · simp only [Option.bind_eq_some_iff, Option.map_eq_some_iff] at h
    obtain ⟨n, h0, a, h1, b, h2, c, h3, d, h4, e, h5, f, h6, g, h7, i, h8, j, h9, k, h10, rfl⟩ := h
    rw [asS_inv h0, asI_inv h1, asI_inv h2, asI_inv h3, asI_inv h4, asI_inv h5, asI_inv h6, asI_inv h7, asI_inv h8, asI_inv h9, asI_inv h10]
    rfl
  · cases h
/-- How an element of such a map reads. -/
def rB : Value → Option (DataW Unit × List MemPlace)
  | .agg cs => (bbOf cs.toList).map fun x => (bd x, [])
  | _ => none
theorem rB_val (x : Bb) : rB x.val = some (bd x, []) := by
  simp [rB, Bb.val, bbOf_cells]
theorem rB_inv {v : Value} {z : DataW Unit × List MemPlace} (h : rB v = some z) : ∃ x : Bb, v = x.val ∧ z = (bd x, []) := by
  unfold rB at h
  split at h
  · rename_i cs
    rw [Option.map_eq_some_iff] at h
    obtain ⟨x, h1, rfl⟩ := h
    refine ⟨x, ?_, rfl⟩
    unfold Bb.val
    rw [← bbOf_inv h1]
  · cases h

/-- What a map of these blobs reads as: their names rise. -/
def bD (L : List Bb) : DataW Unit := .map (L.map fun x => (Lit.string x.nm, bd x))
theorem before_less : ∀ a b : List UInt8, bytesBefore a b = Op.bytesLess a b
  | [], [] => rfl
  | [], _ :: _ => rfl
  | _ :: _, [] => rfl
  | a :: x, b :: y => by
    unfold bytesBefore Op.bytesLess
    rw [before_less x y]
theorem same_dec (x : Bb) (nm : List UInt8) : (!(Lit.string x.nm).sameKey (.string nm)) = decide (x.nm ≠ nm) := by
  show (!(x.nm == nm)) = _
  by_cases h : x.nm = nm
  · simp [h]
  · simp [h]
theorem bD_del (L : List Bb) (nm : List UInt8) : (bD L).del (.string nm) = bD (without L nm) := by
  show DataW.map ((L.map fun x => (Lit.string x.nm, bd x)).filter fun p => !p.1.sameKey (.string nm)) = DataW.map ((without L nm).map fun x => (Lit.string x.nm, bd x))
  unfold without
  rw [List.filter_map]
  congr 2
  apply List.filter_congr
  intro x _
  exact same_dec x nm
theorem insert_map (b : Bb) : ∀ L : List Bb, DataW.insert (Lit.string b.nm, bd b) (L.map fun x => (Lit.string x.nm, bd x)) = (with_ L b).map fun x => (Lit.string x.nm, bd x)
  | [] => rfl
  | x :: r => by
    rw [List.map_cons, DataW.insert, with_]
    have e : (Lit.string b.nm).before (Lit.string x.nm) = Op.bytesLess b.nm x.nm := before_less _ _
    dsimp only
    rw [e]
    split
    · rfl
    · rw [insert_map b r, List.map_cons]
theorem bD_put (L : List Bb) (b : Bb) : (bD L).put (.string b.nm) (bd b) = bD (with_ (without L b.nm) b) := by
  have h := bD_del L b.nm
  have h2 : DataW.map ((L.map fun x => (Lit.string x.nm, bd x)).filter fun p => !p.1.sameKey (.string b.nm)) = DataW.map ((without L b.nm).map fun x => (Lit.string x.nm, bd x)) := h
  injection h2 with h2
  show DataW.map (DataW.insert (Lit.string b.nm, bd b) ((L.map fun x => (Lit.string x.nm, bd x)).filter fun p => !p.1.sameKey (.string b.nm))) = _
  rw [h2, insert_map]
  rfl
theorem bD_has (L : List Bb) (nm : List UInt8) : Maps.has (bD L) (.string nm) = decide (nm ∈ L.map Bb.nm) := by
  unfold bD
  rw [Maps.has_eq, List.any_map, Bool.eq_iff_iff, List.any_eq_true, decide_eq_true_eq, List.mem_map]
  constructor
  · rintro ⟨x, h1, h2⟩
    exact ⟨x, h1, by simpa [Lit.sameKey] using h2⟩
  · rintro ⟨x, h1, h2⟩
    exact ⟨x, h1, by simp [Lit.sameKey, h2]⟩
/-- The blob of a name. -/
def fnd (L : List Bb) (nm : List UInt8) : Option Bb := L.find? fun x => decide (x.nm = nm)
theorem bD_at (L : List Bb) (nm : List UInt8) (z : Bb) : (bD L).atKey (.string nm) (bd z) = bd ((fnd L nm).getD z) := by
  unfold bD DataW.atKey fnd
  dsimp only
  rw [List.find?_map]
  have e : ((fun p : Lit × DataW Unit => p.1.sameKey (.string nm)) ∘ fun x : Bb => (Lit.string x.nm, bd x)) = fun x : Bb => decide (x.nm = nm) := by
    funext x
    show (x.nm == nm) = _
    by_cases h : x.nm = nm <;> simp [h]
  rw [e]
  cases L.find? fun x => decide (x.nm = nm) <;> rfl
theorem bD_size (L : List Bb) : Maps.size (bD L) = L.length := by
  unfold bD
  rw [Maps.size_eq, List.length_map]
theorem bD_keys (L : List Bb) : strKeys (bD L) = L.map Bb.nm := by
  show (L.map fun x => (Lit.string x.nm, bd x)).map (fun p => strOf p.1) = _
  rw [List.map_map]
  rfl
theorem less_lt : ∀ {a b : List UInt8}, Op.bytesLess a b = true ↔ a < b
  | [], [] => by simp [Op.bytesLess]
  | [], _ :: _ => by simp [Op.bytesLess]
  | _ :: _, [] => by simp [Op.bytesLess]
  | a :: x, b :: y => by
    rw [Op.bytesLess, List.cons_lt_cons_iff, Bool.or_eq_true, Bool.and_eq_true, decide_eq_true_eq, beq_iff_eq, less_lt (a := x) (b := y)]
theorem names_sort {L : List Bb} (h : L.Pairwise risen) {ss : List (List UInt8)} (hp : ss.Perm (L.map Bb.nm)) : ss.mergeSort (fun x y => decide (x ≤ y)) = L.map Bb.nm := by
  rw [show ss.mergeSort (fun x y => decide (x ≤ y)) = (L.map Bb.nm).mergeSort (fun x y => decide (x ≤ y)) from mergeSort_of_perm hp]
  apply List.mergeSort_of_pairwise
  rw [List.pairwise_map]
  refine h.imp fun {a b} hab => ?_
  simp only [decide_eq_true_eq]
  exact List.le_of_lt (less_lt.1 hab)
theorem fnd_mem {L : List Bb} (h : L.Pairwise risen) {x : Bb} (hx : x ∈ L) : fnd L x.nm = some x := find_name h hx
theorem fnd_none {L : List Bb} {nm : List UInt8} : fnd L nm = none ↔ nm ∉ L.map Bb.nm := by
  unfold fnd
  rw [List.find?_eq_none, List.mem_map]
  constructor
  · rintro h ⟨x, h1, h2⟩
    exact h x h1 (by simp [h2])
  · intro h x hx
    simp only [decide_eq_true_eq]
    exact fun e => h ⟨x, hx, e⟩
theorem fnd_some {L : List Bb} {nm : List UInt8} {x : Bb} (h : fnd L nm = some x) : x ∈ L ∧ x.nm = nm := ⟨List.mem_of_find?_eq_some h, by have := List.find?_some h; simpa using this⟩
end Go.Proofs.YtdkbpjkoiegflaaGreat
