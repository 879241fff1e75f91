/- The walk of ValueParses: for every text the law answers true. -/
import Derived.Test.YtomgpkklbhdgiaaGreatDoorVlArg
import Derived.Test.YtomgpkklbhdgiaaGreatDoorVlParR
namespace Go.Proofs.YtomgpkklbhdgiaaGreatDoor
open Go.RowKit

set_option maxRecDepth 20000 in
set_option maxHeartbeats 4000000 in
theorem coreValueParses (l : List UInt8) (w : World) (hw : Lw w) :
    Calls Tryz.prog 5 #[.string (str l)] w fun e w' => e = .returned (.bool true) ∧ Below w.heap.size w w' := by
  have HW := hid hw
  clear hw
  have hz : (str l).size = l.length := str_size l
  go_enter Tryz.func5, Tryz.ntmps5
  go_wp2_with fail
  refine (first_c _ HW.out).mono ?_
  rintro e w1 ⟨rfl, hb1⟩
  by_cases hb : 1000 < l.length
  · have d1 : decide (1000 < (l.length : Int)) = true := by simp; omega
    have d1' : decide (1000 < l.length) = true := by simpa using hb
    clear hb
    go_wp2
    go_ret
    exact ⟨rfl, hb1⟩
  have d1 : decide (1000 < (l.length : Int)) = false := by simp; omega
  have d1' : decide (1000 < l.length) = false := by simpa using hb
  have HL : Hid (l.length ≤ 1000) := hid (by omega)
  clear hb
  have C1 := hid (fun wx (h : Lw wx) => vparse_c l (Nat.le_trans HL.out (by decide)) wx h)
  have C2 := hid (fun wx => rparse3_c l HL.out wx)
  generalize (vP l).getD vNull = v at *
  generalize (vP l).isSome = ok at *
  go_wp2_with fail
  refine (C1.out _ (HW.out.below hb1)).mono ?_
  rintro e w2 ⟨rfl, hb2⟩
  have hbel2' := hb1.trans (hb2.mono hb1.size)
  have hbel2 := hbel2'.alloc hbel2'.size (.cells (cs4 v) 25)
  have B2 := Blk.new w2 25 (cs4 v)
  clear hb1 hb2 hbel2'
  go_wp2_with fail
  refine (C2.out _).mono ?_
  rintro e w3 ⟨rfl, hb3⟩
  have B3 := (B2.bel hb3 B2.lt).old (.cells (cs4 v) 25)
  have X3 := Blk.new w3 25 (cs4 v)
  have hbel3' := hbel2.trans (hb3.mono hbel2.size)
  have hbel3 := hbel3'.alloc hbel3'.size (.cells (cs4 v) 25)
  obtain ⟨p0, p1, p2, p3, -⟩ := Blk.v4 B3
  obtain ⟨q0, q1, q2, q3, -⟩ := Blk.v4 X3
  clear B2 B3 X3 hb3 hbel2 hbel3' d1 d1'
  go_wp2
  go_ret
  exact ⟨rfl, hbel3⟩
theorem walkValueParses (s : ByteArray) (w : World) (_ : s.size ≤ maxLen) (hw : Lw w) :
    Calls Tryz.prog 5 #[.string s] w fun e w' => e = .returned (.bool true) ∧ Below w.heap.size w w' := by
  have h := coreValueParses s.data.toList w hw
  rw [str_eta] at h
  exact h
end Go.Proofs.YtomgpkklbhdgiaaGreatDoor
