/- What strongroomlaw03.first returns: true. -/
import Derived.Test.YtfjpnkchldjjmaaGreatDoorVlPa
import Derived.Test.YtfjpnkchldjjmaaGreatDoorVlMask
namespace Go.Proofs.YtfjpnkchldjjmaaGreatDoor
open Go.RowKit

theorem f_cmp : vCmp (4, 0, [], 0) (4, 0, [], 9223372036854775808) = 0 ∧ vCmpOk (4, 0, [], 0) (4, 0, [], 9223372036854775808) = true ∧ vOrd (4, 0, [], 0) (4, 0, [], 9223372036854775808) = 1 := by decide +kernel
theorem f_parse : vP [120, 54, 49, 54, 50] = some (3, 0, [97, 98], 0) := vP_of (u := (3, 0, [97, 98], 0)) (by decide) (by decide) (by decide) (by decide)
theorem f_mask : vMask (3, 0, [115, 101, 99, 114, 101, 116], 0) 3 2 = (3, 0, [115, 101], 0) := by decide

set_option maxRecDepth 20000 in
set_option maxHeartbeats 2000000 in
theorem first_c (w : World) (hw : Lw w) : Calls Tryz.prog 5 #[] w fun e w' => e = .returned (.bool true) ∧ Below w.heap.size w w' := by
  have HW := hid hw
  clear hw
  go_enter Tryz.func5, Tryz.ntmps5
  go_wp2_with fail
  refine (vcompare_c (4, 0, [], 0) (4, 0, [], 9223372036854775808) (by decide) (by decide) _).mono ?_
  rintro e w2 ⟨rfl, hb2⟩
  obtain ⟨B1, B2, hbel2⟩ := two_boxes0 hb2
  rw [f_cmp.1, f_cmp.2.1]
  have HLW2 := hid (HW.out.below hbel2)
  clear hb2
  go_wp2_with fail
  refine (vparse_c [120, 54, 49, 54, 50] (by decide) w2 HLW2.out).mono ?_
  rintro e w3 ⟨rfl, hb3⟩
  rw [f_parse]
  have B1' := B1.bel hb3 B1.lt
  have B2' := B2.bel hb3 B2.lt
  have hbel3 := hbel2.trans (hb3.mono hbel2.size)
  clear hb3 B1 B2 hbel2 HLW2
  obtain ⟨pv, hpv⟩ : ∃ pv : Vl, pv = (3, 0, [97, 98], 0) := ⟨_, rfl⟩
  rw [← hpv]
  have C1 := B1'.old (.cells #[.int .i64 (vk pv), .int .i64 (vn pv), .string (str (vs pv)), .int .u64 ((vf pv : Nat) : Int)] 26)
  have C2 := B2'.old (.cells #[.int .i64 (vk pv), .int .i64 (vn pv), .string (str (vs pv)), .int .u64 ((vf pv : Nat) : Int)] 26)
  have C3 := Blk.new w3 26 #[.int .i64 (vk pv), .int .i64 (vn pv), .string (str (vs pv)), .int .u64 ((vf pv : Nat) : Int)]
  have hbelC := hbel3.alloc hbel3.size (.cells #[.int .i64 (vk pv), .int .i64 (vn pv), .string (str (vs pv)), .int .u64 ((vf pv : Nat) : Int)] 26)
  have es : ((str (vs pv)).toList == [97, 98]) = true := by rw [str_list, hpv]; decide
  have HPV := hid hpv
  clear B1' B2' hbel3 hpv
  go_wp2_with fail
  refine (vmask_c (3, 0, [115, 101, 99, 114, 101, 116], 0) (by decide) 3 2 _).mono ?_
  rintro e w4 ⟨rfl, hb4⟩
  rw [f_mask]
  obtain ⟨mv, hmv⟩ : ∃ mv : Vl, mv = (3, 0, [115, 101], 0) := ⟨_, rfl⟩
  rw [← hmv]
  have es2 : ((str (vs mv)).toList == [115, 101]) = true := by rw [str_list, hmv]; decide
  have D1 := (C1.bel hb4 C1.lt).old (.cells #[.int .i64 (vk mv), .int .i64 (vn mv), .string (str (vs mv)), .int .u64 ((vf mv : Nat) : Int)] 26)
  have D2 := (C2.bel hb4 C2.lt).old (.cells #[.int .i64 (vk mv), .int .i64 (vn mv), .string (str (vs mv)), .int .u64 ((vf mv : Nat) : Int)] 26)
  have D3 := (C3.bel hb4 C3.lt).old (.cells #[.int .i64 (vk mv), .int .i64 (vn mv), .string (str (vs mv)), .int .u64 ((vf mv : Nat) : Int)] 26)
  have D4 := Blk.new w4 26 #[.int .i64 (vk mv), .int .i64 (vn mv), .string (str (vs mv)), .int .u64 ((vf mv : Nat) : Int)]
  have hbelD' := hbelC.trans (hb4.mono hbelC.size)
  have hbelD := hbelD'.alloc hbelD'.size (.cells #[.int .i64 (vk mv), .int .i64 (vn mv), .string (str (vs mv)), .int .u64 ((vf mv : Nat) : Int)] 26)
  have HMV := hid hmv
  clear C1 C2 C3 hbelC hb4 hbelD' hmv
  obtain ⟨a0, a1, a2, a3, -⟩ := D1.v4
  obtain ⟨b0, b1, b2, b3, -⟩ := D2.v4
  go_wp2_with fail
  refine (vorder_c (4, 0, [], 0) (4, 0, [], 9223372036854775808) (by decide) (by decide) _).mono ?_
  rintro e w5 ⟨rfl, hb5⟩
  rw [f_cmp.2.2]
  obtain ⟨c0, c1, c2, c3, -⟩ := Blk.v4 (D3.bel hb5 D3.lt)
  obtain ⟨d0, d1, d2, d3, -⟩ := Blk.v4 (D4.bel hb5 D4.lt)
  have hbel5 := hbelD.trans (hb5.mono hbelD.size)
  clear D1 D2 D3 D4 hbelD hb5 a0 a1 a2 a3 b0 b1 b2 b3
  go_wp2_with fail
  refine (not_c 0 _).mono ?_
  rintro e w6 ⟨rfl, rfl⟩
  rw [show tNot 0 = 1 from rfl]
  go_wp2_with fail
  refine (and_c 2 0 _).mono ?_
  rintro e w7 ⟨rfl, rfl⟩
  rw [show tAnd 2 0 = 0 by decide]
  go_wp2_with fail
  refine (or_c 2 1 _).mono ?_
  rintro e w8 ⟨rfl, rfl⟩
  rw [show tOr 2 1 = 1 by decide]
  go_wp2
  go_ret
  exact ⟨rfl, hbel5⟩
end Go.Proofs.YtfjpnkchldjjmaaGreatDoor
