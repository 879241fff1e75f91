/- Values of cells as they come in; two and three of them, kept. -/
import Derived.Test.YtfjpnkchldjjmaaGreatDoorVlFirst
import Derived.Test.YtfjpnkchldjjmaaGreatDoorFrame
import Derived.Deep.RegionHeld
namespace Go.Proofs.YtfjpnkchldjjmaaGreatDoor
open Go.RowKit

theorem str_eta (s : ByteArray) : str s.data.toList = s := by
  unfold str
  cases s
  simp
theorem vl_of {k n f : Int} {s : ByteArray} (hn : (Lit.int .i64 n).wf = true) (hf : (Lit.int .u64 f).wf = true) :
    ∃ v : Vl, Value.agg #[.int .i64 k, .int .i64 n, .string s, .int .u64 f] = (.agg #[.int .i64 (vk v), .int .i64 (vn v), .string (str (vs v)), .int .u64 ((vf v : Nat) : Int)]) ∧ vf v < 18446744073709551616 ∧ -9223372036854775808 ≤ vn v ∧ vn v ≤ 9223372036854775807 := by
  obtain ⟨f1, f2⟩ := wf_u64 hf
  obtain ⟨n1, n2⟩ := wf_i64 hn
  refine ⟨(k, n, s.data.toList, f.toNat), ?_, ?_, n1, n2⟩
  · show _ = Value.agg #[.int .i64 k, .int .i64 n, .string (str s.data.toList), .int .u64 ((f.toNat : Nat) : Int)]
    rw [str_eta, show ((f.toNat : Nat) : Int) = f by omega]
  · show f.toNat < _
    omega
abbrev cs4 (v : Vl) : Array Value := #[.int .i64 (vk v), .int .i64 (vn v), .string (str (vs v)), .int .u64 ((vf v : Nat) : Int)]
/-- Two values that lie side by side, from block g on, in a world that has grown out of w. -/
def Two2 (w : World) (g : Nat) (a b : Vl) (wx : World) : Prop := Blk wx g 26 (cs4 a) ∧ Blk wx (g + 1) 26 (cs4 b) ∧ Below w.heap.size w wx
theorem Two2.step {w : World} {g : Nat} {a b : Vl} {wx wy : World} (h : Two2 w g a b wx) (hb : Below wx.heap.size wx wy) : Two2 w g a b wy :=
  ⟨h.1.bel hb h.1.lt, h.2.1.bel hb h.2.1.lt, h.2.2.trans (hb.mono h.2.2.size)⟩
theorem Two2.drew {w : World} {g : Nat} {a b : Vl} {wx : World} (h : Two2 w g a b wx) : Two2 w g a b wx.drew := h.step (Below.refl _ _).drew
theorem Two2.mk {w wz : World} {a b : Vl} (hb : Below ((w.alloc (.cells (cs4 a) 26)).alloc (.cells (cs4 b) 26)).heap.size ((w.alloc (.cells (cs4 a) 26)).alloc (.cells (cs4 b) 26)) wz) : Two2 w w.heap.size a b wz := two_boxes0 hb
/-- The greater of two ints, as the model comes to it. -/
theorem max_forms (x y : Nat) : ∃ m : Nat, (m = max x y) ∧ (if (x : Int) < (y : Int) then (y : Int) else (x : Int)) = (m : Int) ∧ (if (y : Int) < (x : Int) then (x : Int) else (y : Int)) = (m : Int) ∧ (if (x : Int) ≤ (y : Int) then (y : Int) else (x : Int)) = (m : Int) ∧ (if (y : Int) ≤ (x : Int) then (x : Int) else (y : Int)) = (m : Int) ∧ max (x : Int) (y : Int) = (m : Int) :=
  ⟨max x y, rfl, by split <;> omega, by split <;> omega, by split <;> omega, by split <;> omega, by omega⟩
end Go.Proofs.YtfjpnkchldjjmaaGreatDoor
