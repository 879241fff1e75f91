/- How a map of blocks lies in memory: its own block, the row of what is taken. Nothing is assumed. -/
import Derived.Test.YtfkaobpfdpfahaaSpMath
import Derived.Test.YtfkaobpfdpfahaaMemO
namespace Go.Proofs.Ytfkaobpfdpfahaa
open Go.RowKit

/-- The cells of some truths. -/
def bls (l : List Bool) : List Value := l.map .bool
theorem bls_len (l : List Bool) : (bls l).length = l.length := by simp [bls]
structure Mp (w : World) (g k : Nat) (s : Sp) : Prop where
  blk : Blk w g 50 #[.slice (some ⟨k, 0, none⟩) s.T.length s.T.length, .int .i64 (s.r : Int)]
  row : Blk w k 4 (bls s.T).toArray
  ok : s.ok
section
variable {w w' : World} {g k : Nat} {s : Sp}
theorem Mp.ne (h : Mp w g k s) : g ≠ k := fun e => by
  subst e
  have := h.blk.symm.trans h.row
  injection this with this
  injection this with _ h2 _
  revert h2
  decide
theorem Mp.keep (h : Mp w g k s) (hg : w'.heap[g]? = w.heap[g]?) (hk : w'.heap[k]? = w.heap[k]?) : Mp w' g k s := ⟨h.blk.keep hg, h.row.keep hk, h.ok⟩
theorem Mp.bel (h : Mp w g k s) (hb : Below w.heap.size w w') : Mp w' g k s := h.keep (hb.block g h.blk.lt) (hb.block k h.row.lt)
theorem Mp.kp {F : Nat → Prop} (h : Mp w g k s) (hk : Kp F w w') (hg : ¬ F g) (hr : ¬ F k) : Mp w' g k s := h.keep (hk.block g h.blk.lt hg) (hk.block k h.row.lt hr)
theorem Mp.cells (h : Mp w g k s) : w.cell? ⟨g, 0, none⟩ = some (.slice (some ⟨k, 0, none⟩) s.T.length s.T.length) ∧ w.cell? ⟨g, 1, none⟩ = some (.int .i64 (s.r : Int)) := by
  have h0 := h.blk.cell 0
  have h1 := h.blk.cell 1
  simp at h0 h1
  exact ⟨h0, h1⟩
theorem Mp.at_ (h : Mp w g k s) {j : Nat} {b : Bool} (hb : s.T[j]? = some b) : w.cell? ⟨k, j, none⟩ = some (.bool b) := by
  rw [h.row.cell j]
  simp [bls, hb]
theorem Mp.put (h : Mp w g k s) (j : Nat) (b : Bool) (ho : (s.put j b).ok) : Mp (w.setCell ⟨k, j, none⟩ (.bool b)) g k (s.put j b) := by
  have hr := h.row.store j (.bool b)
  refine ⟨?_, ?_, ho⟩
  · have := h.blk.keep ((grown_setCell w k j (.bool b)).block g h.blk.lt (fun e => h.ne (by injection e)))
    rw [Sp.put_len]
    exact this
  · have e : (bls s.T).toArray.setIfInBounds j (.bool b) = (bls (s.put j b).T).toArray := by
      apply Array.toList_inj.1
      simp [bls, Sp.put, List.map_set]
    rwa [e] at hr
end
/-- What a call leaves of a map. -/
def MLeft (w w' : World) (g k : Nat) (s : Sp) : Prop := Mp w' g k s ∧ Kp (fun j => j = k) w w'
theorem MLeft.same {w : World} {g k : Nat} {s : Sp} (h : Mp w g k s) : MLeft w w g k s := ⟨h, Kp.refl _ _⟩
theorem Mp.left {w : World} {g k : Nat} {s : Sp} (h : Mp w g k s) (j : Nat) (b : Bool) (ho : (s.put j b).ok) : MLeft w (w.setCell ⟨k, j, none⟩ (.bool b)) g k (s.put j b) := ⟨h.put j b ho, Kp.setCell w k j _ rfl⟩
end Go.Proofs.Ytfkaobpfdpfahaa
