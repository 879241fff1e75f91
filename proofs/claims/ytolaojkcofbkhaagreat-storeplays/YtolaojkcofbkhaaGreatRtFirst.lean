import Derived.Test.YtolaojkcofbkhaaGreatRtA
namespace Go.Proofs.YtolaojkcofbkhaaGreat
open Go.RowKit
theorem tc_new {w wr : World} {gd gv : Nat} {d : St} {v : Va} {X : Nat → Prop} (h : On w (PV gd d gv v) wr X) : On w (TC gd d gv v wr.heap.size ⟨0, 0⟩) (wr.alloc (.cells #[.int .i64 0, .int .i64 0] 33)) X ∧ Stay X wr (wr.alloc (.cells #[.int .i64 0, .int .i64 0] 33)) := by
 have hb : Below wr.heap.size wr (wr.alloc (.cells #[.int .i64 0, .int .i64 0] 33)) := (Below.refl _ _).alloc (nl _) _
 exact ⟨h.with_ (PV.ok _ _ _ _) (Q := CeO wr.heap.size ⟨0, 0⟩) (G := fun j => j = wr.heap.size) ⟨Blk.new wr 33 _, fun j => Iff.rfl⟩ hb (fun j hj => by subst hj; exact nl _), h.stay hb⟩
end Go.Proofs.YtolaojkcofbkhaaGreat
