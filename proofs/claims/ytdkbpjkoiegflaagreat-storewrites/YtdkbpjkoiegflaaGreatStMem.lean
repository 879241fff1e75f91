/- Rows of blobs as they lie: eleven cells each; of whatever type number the seat has for them. Nothing is assumed. -/
import Derived.Test.YtdkbpjkoiegflaaGreatStMath
import Derived.Test.YtdkbpjkoiegflaaGreatMem
namespace Go.Proofs.YtdkbpjkoiegflaaGreat
open Go.RowKit

def Bb.cells (x : Bb) : List Value := [.string (str x.nm), .int .i64 x.k.t, .int .i64 x.k.c, .int .i64 x.k.e, .int .i64 x.b, .int .i64 x.p.k.t, .int .i64 x.p.k.c, .int .i64 x.p.k.e, .int .i64 x.p.id, .int .i64 x.p.ver, .int .i64 x.sz]
def bcs (l : List Bb) : List Value := l.flatMap Bb.cells
theorem bcs_app (a b : List Bb) : bcs (a ++ b) = bcs a ++ bcs b := by simp [bcs]
theorem bcs_one (x : Bb) : bcs [x] = x.cells := by simp [bcs]
theorem bcs_len (l : List Bb) : (bcs l).length = l.length * 11 := by
  induction l with
  | nil => rfl
  | cons x r ih =>
    show (x.cells ++ bcs r).length = _
    rw [List.length_append, ih]
    simp [Bb.cells]
    omega
theorem bb_cell (x : Bb) : ∀ u ∈ x.cells, u.oneCell' = true := by
  intro u hu
  simp only [Bb.cells, List.mem_cons, List.not_mem_nil, or_false] at hu
  rcases hu with rfl | rfl | rfl | rfl | rfl | rfl | rfl | rfl | rfl | rfl | rfl <;> rfl
theorem bcs_cell (l : List Bb) : ∀ u ∈ bcs l, u.oneCell' = true := by
  intro u hu
  obtain ⟨x, _, hx⟩ := List.mem_flatMap.1 hu
  exact bb_cell x u hx
theorem bcs_at (l : List Bb) {j : Nat} (hj : j < l.length) : ∀ t u, l[j].cells[t]? = some u → (bcs l)[j * 11 + t]? = some u := by
  intro t u hu
  have hl : (bcs (l.take j)).length = j * 11 := by rw [bcs_len, List.length_take, Nat.min_eq_left (Nat.le_of_lt hj)]
  have ht := (List.getElem?_eq_some_iff.1 hu).1
  have e : bcs l = bcs (l.take j) ++ (l[j].cells ++ bcs (l.drop (j + 1))) := by
    conv => lhs; rw [show l = l.take j ++ (l[j] :: l.drop (j + 1)) by simp]
    rw [bcs_app]
    rfl
  rw [e, List.getElem?_append_right (by omega), List.getElem?_append_left (by rw [hl]; simp only [Nat.add_sub_cancel_left]; exact ht), hl, Nat.add_sub_cancel_left]
  exact hu
/-- A row of blobs of a call's own, T being the number of their type. -/
def BRow (T : TypeId) (w : World) (base : Nat) (A : Option Addr) (c : Nat) (l : List Bb) : Prop := w.ownsRow base T 11 (.slice A l.length c) l.length (bcs l)
section
variable {T : TypeId} {w w' : World} {base : Nat} {A : Option Addr} {c : Nat} {l : List Bb}
theorem BRow.keep (h : BRow T w base A c l) (hk : ∀ b, A.map (·.block) = some b → w'.heap[b]? = w.heap[b]?) : BRow T w' base A c l := own_keep h hk
theorem BRow.nil (T : TypeId) (w : World) (base : Nat) : BRow T w base none 0 [] := own_nilrow _ _ _ _
theorem BRow.elem (h : BRow T w base A c l) {j : Nat} (hj : j < l.length) : ∃ b, A = some ⟨b, 0, none⟩ ∧ b < w.heap.size ∧ w.rangeAt b (j * 11) l[j].cells := by
  obtain ⟨b, hA, hlt, hr⟩ := own_range h (by omega)
  exact ⟨b, hA, hlt, fun t u hu => by
    have := hr (j * 11 + t) u (bcs_at l hj t u hu)
    rwa [Nat.zero_add] at this⟩
end
/-- A blob in a box. -/
def BbB (T : TypeId) (w : World) (b : Nat) (x : Bb) : Prop := Blk w b T x.cells.toArray
theorem bbB_cells {T : TypeId} {w : World} {b : Nat} {x : Bb} (h : BbB T w b x) : w.cell? ⟨b, 0, none⟩ = some (.string (str x.nm)) ∧ w.cell? ⟨b, 1, none⟩ = some (.int .i64 x.k.t) ∧ w.cell? ⟨b, 2, none⟩ = some (.int .i64 x.k.c) ∧ w.cell? ⟨b, 3, none⟩ = some (.int .i64 x.k.e) ∧ w.cell? ⟨b, 4, none⟩ = some (.int .i64 x.b) ∧
    w.cell? ⟨b, 5, none⟩ = some (.int .i64 x.p.k.t) ∧ w.cell? ⟨b, 6, none⟩ = some (.int .i64 x.p.k.c) ∧ w.cell? ⟨b, 7, none⟩ = some (.int .i64 x.p.k.e) ∧ w.cell? ⟨b, 8, none⟩ = some (.int .i64 x.p.id) ∧ w.cell? ⟨b, 9, none⟩ = some (.int .i64 x.p.ver) ∧ w.cell? ⟨b, 10, none⟩ = some (.int .i64 x.sz) :=
  ⟨(Blk.cell h 0).trans rfl, (Blk.cell h 1).trans rfl, (Blk.cell h 2).trans rfl, (Blk.cell h 3).trans rfl, (Blk.cell h 4).trans rfl, (Blk.cell h 5).trans rfl, (Blk.cell h 6).trans rfl, (Blk.cell h 7).trans rfl, (Blk.cell h 8).trans rfl, (Blk.cell h 9).trans rfl, (Blk.cell h 10).trans rfl⟩
/-- The blobs of a row, by the first that is unlike: two rows are the same or not. -/
def same (a b : List Bb) : Bool := decide (a = b)
end Go.Proofs.YtdkbpjkoiegflaaGreat
