/- What strongroomlaw08.first returns: true. -/
import Derived.Test.YtolaojkcofbkhaaGreatRtA
namespace Go.Proofs.YtolaojkcofbkhaaGreat
open Go.RowKit

theorem tc_new {w wr : World} {gd gv : Nat} {d : St} {v : Va} {X : Nat → Prop} (h : On w (PV gd d gv v) wr X) : On w (TC gd d gv v wr.heap.size ⟨0, 0⟩) (wr.alloc (.cells #[.int .i64 0, .int .i64 0] 33)) X ∧ Stay X wr (wr.alloc (.cells #[.int .i64 0, .int .i64 0] 33)) := by
  have hb : Below wr.heap.size wr (wr.alloc (.cells #[.int .i64 0, .int .i64 0] 33)) := (Below.refl _ _).alloc (Nat.le_refl _) _
  exact ⟨h.with_ (PV.ok _ _ _ _) (Q := CeO wr.heap.size ⟨0, 0⟩) (G := fun j => j = wr.heap.size) ⟨Blk.new wr 33 _, fun j => Iff.rfl⟩ hb (fun j hj => by subst hj; exact Nat.le_refl _), h.stay hb⟩
/-- The device, the vault and the cell of the example. -/
theorem first_facts : ∃ d1 v1 d2 v2, (ptE (St.new 4) Va.new ⟨0, 0⟩ 1 = 0 ∧ ptD (St.new 4) Va.new ⟨0, 0⟩ 1 = d1 ∧ ptV (St.new 4) Va.new ⟨0, 0⟩ [97] = v1 ∧ ptC (St.new 4) Va.new ⟨0, 0⟩ 1 = ⟨1, 1⟩) ∧ (d1.W.length ≤ 10 ∧ v1.L.length ≤ 10) ∧
    (ptE (d1.bound 1) v1 ⟨1, 1⟩ 1 = 40 ∧ ptD (d1.bound 1) v1 ⟨1, 1⟩ 1 = d2 ∧ ptV (d1.bound 1) v1 ⟨1, 1⟩ [98] = v2 ∧ ptC (d1.bound 1) v1 ⟨1, 1⟩ 1 = ⟨1, 1⟩) ∧ d2.W.length ≤ 10 ∧ gtE (d2.crash [true]) v2 ⟨1, 1⟩ = 0 ∧ gtB (d2.crash [true]) v2 ⟨1, 1⟩ = [97] := by
  have r0 := Rt.new (n := 4) (by omega) []
  obtain ⟨a1, a2, a3⟩ := pt_none (d := St.new 4) (v := Va.new) (c := ⟨0, 0⟩) (by decide) rfl (l := [97]) (by decide) rfl
  have a3' : ptC (St.new 4) Va.new ⟨0, 0⟩ [(97 : UInt8)].length = ⟨1, 1⟩ := a3
  have r1 : Rt (ptD (St.new 4) Va.new ⟨0, 0⟩ [(97 : UInt8)].length) (ptV (St.new 4) Va.new ⟨0, 0⟩ [97]) ⟨1, 1⟩ [97] false := by
    rcases r0.put (by decide) (l := [97]) (by decide) with ⟨_, h2, _⟩ | ⟨h1, _, _⟩
    · rw [a3'] at h2; exact h2
    · rw [a1] at h1; cases h1
  have w1 := ptD_W (St.new 4) Va.new ⟨0, 0⟩ [(97 : UInt8)].length
  have v1L := (ptV_L (St.new 4) Va.new ⟨0, 0⟩ [97]).1
  have hl1 : (ptD (St.new 4) Va.new ⟨0, 0⟩ [(97 : UInt8)].length).n = 4 := ptD_n _ _ _ _
  have s0 : (St.new 4).W.length = 0 := rfl
  have s1 : Va.new.L.length = 0 := rfl
  obtain ⟨d1, hd1⟩ : ∃ d1, ptD (St.new 4) Va.new ⟨0, 0⟩ [(97 : UInt8)].length = d1 := ⟨_, rfl⟩
  obtain ⟨v1, hv1⟩ : ∃ v1, ptV (St.new 4) Va.new ⟨0, 0⟩ [97] = v1 := ⟨_, rfl⟩
  rw [hd1] at r1 w1 hl1
  rw [hv1] at r1 v1L
  have b1 := pt_one (d := d1.bound 1) (v := v1) (c := ⟨1, 1⟩) (by show 2 ≤ d1.n; omega) r1.G (l := [98]) (by decide) rfl
  have r2 := r1.bound 1
  rcases r2.put (by omega) (l := [98]) (by decide) with ⟨h1, _, _⟩ | ⟨_, h2, h3⟩
  · rw [b1] at h1; cases h1
  rw [h3] at h2
  have w2 := ptD_W (d1.bound 1) v1 ⟨1, 1⟩ [(98 : UInt8)].length
  have v2L := (ptV_L (d1.bound 1) v1 ⟨1, 1⟩ [98]).1
  have s2 : (d1.bound 1).W.length = d1.W.length := rfl
  have hg : gtE ((ptD (d1.bound 1) v1 ⟨1, 1⟩ [(98 : UInt8)].length).crash [true]) (ptV (d1.bound 1) v1 ⟨1, 1⟩ [98]) ⟨1, 1⟩ = 0 ∧ gtB ((ptD (d1.bound 1) v1 ⟨1, 1⟩ [(98 : UInt8)].length).crash [true]) (ptV (d1.bound 1) v1 ⟨1, 1⟩ [98]) ⟨1, 1⟩ = [97] := by
    rcases (h2.crash [true]).got (by omega) (by decide) with h | ⟨_, h⟩ | ⟨_, h⟩
    · exact h
    · cases h
    · cases h
  exact ⟨d1, v1, ptD (d1.bound 1) v1 ⟨1, 1⟩ [(98 : UInt8)].length, ptV (d1.bound 1) v1 ⟨1, 1⟩ [98], ⟨a1, hd1, hv1, a3'⟩, ⟨by omega, by omega⟩, ⟨b1, rfl, rfl, h3⟩, by omega, hg.1, hg.2⟩

end Go.Proofs.YtolaojkcofbkhaaGreat
