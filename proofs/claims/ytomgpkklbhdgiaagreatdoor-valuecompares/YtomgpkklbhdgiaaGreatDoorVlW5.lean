/- What the document's own Compare and Order return. -/
import Derived.Test.YtomgpkklbhdgiaaGreatDoorVlW4
import Derived.Test.YtomgpkklbhdgiaaGreatDoorVlW3r
import Derived.Test.YtomgpkklbhdgiaaGreatDoorFlR1
namespace Go.Proofs.YtomgpkklbhdgiaaGreatDoor
open Go.RowKit

set_option maxRecDepth 20000 in
set_option maxHeartbeats 2000000 in
theorem rcompare_c (a b : Vl) (fa : vf a < 18446744073709551616) (fb : vf b < 18446744073709551616) (w : World) :
    Calls Tryz.prog 13 #[(.agg #[.int .i64 (vk a), .int .i64 (vn a), .string (str (vs a)), .int .u64 ((vf a : Nat) : Int)]), (.agg #[.int .i64 (vk b), .int .i64 (vn b), .string (str (vs b)), .int .u64 ((vf b : Nat) : Int)])] w fun e w' => e = .returned (.tuple #[.int .i64 (vCmp a b), .bool (vCmpOk a b)]) ∧ Below w.heap.size w w' := by
  have HA := hid (fun wx => rright_c a fa wx)
  have HB := hid (fun wx => rright_c b fb wx)
  have HFA := hid (vRt_f fa)
  have HFB := hid (vRt_f fb)
  have HK := hid (vRt_k a)
  have HC : Hid (vCmp a b = vCmpR (vRt a) (vRt b) ∧ vCmpOk a b = vCmpOkR (vRt a) (vRt b)) := hid ⟨rfl, rfl⟩
  have HSA := hid (vRt_s a)
  have HSB := hid (vRt_s b)
  generalize vCmp a b = rc at *
  generalize vCmpOk a b = ro at *
  generalize vRt a = ra at *
  generalize vRt b = rb at *
  clear fa fb
  go_enter Tryz.func13, Tryz.ntmps13
  go_wp2_with fail
  refine (HA.out _).mono ?_
  rintro e w2 ⟨rfl, hb2⟩
  obtain ⟨-, hB2, hbel⟩ := two_boxes0 hb2
  obtain ⟨q0, q1, q2, q3, -⟩ := (hB2.old (.cells #[.int .i64 (vk ra), .int .i64 (vn ra), .string (str (vs ra)), .int .u64 ((vf ra : Nat) : Int)] 25)).v4
  have hbel2 := hbel.alloc hbel.size (.cells #[.int .i64 (vk ra), .int .i64 (vn ra), .string (str (vs ra)), .int .u64 ((vf ra : Nat) : Int)] 25)
  go_wp2_with fail
  refine (HB.out _).mono ?_
  rintro e w3 ⟨rfl, hb3⟩
  obtain ⟨p0, p1, p2, p3, -⟩ := (((Blk.new w2 25 _).bel hb3 (by simp)).old (.cells #[.int .i64 (vk rb), .int .i64 (vn rb), .string (str (vs rb)), .int .u64 ((vf rb : Nat) : Int)] 25)).v4
  have hbel3 := hbel2.trans (hb3.mono hbel2.size)
  have HBEL := hid (hbel3.alloc hbel3.size (.cells #[.int .i64 (vk rb), .int .i64 (vn rb), .string (str (vs rb)), .int .u64 ((vf rb : Nat) : Int)] 25))
  clear q0 q1 q2 q3 hb2 hb3 hbel hbel2 hbel3 HA HB hB2
  obtain ⟨q0, q1, q2, q3, -⟩ := (Blk.new w3 25 #[.int .i64 (vk rb), .int .i64 (vn rb), .string (str (vs rb)), .int .u64 ((vf rb : Nat) : Int)]).v4
  by_cases h0 : vk ra = 0
  · have t0 : (vk ra == 0) = true := by rw [h0]; rfl
    have HE := hid (cmpR_0 (b := rb) h0)
    clear h0
    go_wp2
    go_ret2
    exact ⟨by rw [HC.out.1, HC.out.2, HE.out.1, HE.out.2]; rfl, HBEL.out⟩
  have t0 : (vk ra == 0) = false := by simpa using h0
  by_cases hk : vk ra = vk rb
  · have d0 : (vk ra != vk rb) = false := by simpa using hk
    by_cases h4 : vk ra = 4
    · have t4 : (vk ra == 4) = true := by rw [h4]; rfl
      have HE := hid (cmpR_4 hk h4)
      clear hk h4 h0
      go_wp2_with fail
      refine (rCompare_c _ _ HFA.out HFB.out _).mono ?_
      rintro e w' ⟨rfl, rfl⟩
      go_wp2
      go_ret2
      exact ⟨by rw [HC.out.1, HC.out.2, HE.out.1, HE.out.2]; rfl, HBEL.out⟩
    have t4 : (vk ra == 4) = false := by simpa using h4
    by_cases h3 : vk ra = 3
    · have t3 : (vk ra == 3) = true := by rw [h3]; rfl
      have HE := hid (cmpR_3 hk h3)
      clear hk h4 h0 h3
      go_wp2_with fail
      refine (texts_c _ _ (by have := HSA.out; omega) (by have := HSB.out; omega) _).mono ?_
      rintro e w4 ⟨rfl, hb4⟩
      have hb5 := HBEL.out.trans (hb4.mono HBEL.out.size)
      go_wp2
      go_ret2
      exact ⟨by rw [HC.out.1, HC.out.2, HE.out.1, HE.out.2]; rfl, hb5⟩
    · have t3 : (vk ra == 3) = false := by simpa using h3
      have HE := hid (cmpR_12 hk (by have := HK.out; omega))
      clear hk h4 h0 h3
      go_wp2_with fail
      refine (numbers_c _ _ _).mono ?_
      rintro e w' ⟨rfl, rfl⟩
      go_wp2
      go_ret2
      exact ⟨by rw [HC.out.1, HC.out.2, HE.out.1, HE.out.2]; rfl, HBEL.out⟩
  · have d0 : (vk ra != vk rb) = true := by simpa using hk
    have HE := hid (cmpR_ne hk)
    clear hk h0
    go_wp2
    go_ret2
    exact ⟨by rw [HC.out.1, HC.out.2, HE.out.1, HE.out.2]; rfl, HBEL.out⟩

set_option maxRecDepth 20000 in
set_option maxHeartbeats 2000000 in
theorem rorder_c (a b : Vl) (fa : vf a < 18446744073709551616) (fb : vf b < 18446744073709551616) (w : World) :
    Calls Tryz.prog 15 #[(.agg #[.int .i64 (vk a), .int .i64 (vn a), .string (str (vs a)), .int .u64 ((vf a : Nat) : Int)]), (.agg #[.int .i64 (vk b), .int .i64 (vn b), .string (str (vs b)), .int .u64 ((vf b : Nat) : Int)])] w fun e w' => e = .returned (.int .i64 (vOrd a b)) ∧ Below w.heap.size w w' := by
  have HA := hid (fun wx => rright_c a fa wx)
  have HB := hid (fun wx => rright_c b fb wx)
  have HFA := hid (vRt_f fa)
  have HFB := hid (vRt_f fb)
  have HC : Hid (vOrd a b = vOrdR (vRt a) (vRt b)) := hid rfl
  have HRA := hid (vRt_vRt a)
  have HRB := hid (vRt_vRt b)
  generalize vOrd a b = rc at *
  generalize vRt a = ra at *
  generalize vRt b = rb at *
  clear fa fb
  go_enter Tryz.func15, Tryz.ntmps15
  go_wp2_with fail
  refine (HA.out _).mono ?_
  rintro e w2 ⟨rfl, hb2⟩
  obtain ⟨-, hB2, hbel⟩ := two_boxes0 hb2
  obtain ⟨q0, q1, q2, q3, -⟩ := (hB2.old (.cells #[.int .i64 (vk ra), .int .i64 (vn ra), .string (str (vs ra)), .int .u64 ((vf ra : Nat) : Int)] 25)).v4
  have hbel2 := hbel.alloc hbel.size (.cells #[.int .i64 (vk ra), .int .i64 (vn ra), .string (str (vs ra)), .int .u64 ((vf ra : Nat) : Int)] 25)
  go_wp2_with fail
  refine (HB.out _).mono ?_
  rintro e w3 ⟨rfl, hb3⟩
  obtain ⟨p0, p1, p2, p3, -⟩ := (((Blk.new w2 25 _).bel hb3 (by simp)).old (.cells #[.int .i64 (vk rb), .int .i64 (vn rb), .string (str (vs rb)), .int .u64 ((vf rb : Nat) : Int)] 25)).v4
  have hbel3 := hbel2.trans (hb3.mono hbel2.size)
  have HBEL := hid (hbel3.alloc hbel3.size (.cells #[.int .i64 (vk rb), .int .i64 (vn rb), .string (str (vs rb)), .int .u64 ((vf rb : Nat) : Int)] 25))
  clear q0 q1 q2 q3 hb2 hb3 hbel hbel2 hbel3 HA HB hB2
  obtain ⟨q0, q1, q2, q3, -⟩ := (Blk.new w3 25 #[.int .i64 (vk rb), .int .i64 (vn rb), .string (str (vs rb)), .int .u64 ((vf rb : Nat) : Int)]).v4
  by_cases hk : vk ra = vk rb
  · have d0 : (vk ra != vk rb) = false := by simpa using hk
    by_cases h4 : vk ra = 4
    · have t4 : (vk ra == 4) = true := by rw [h4]; rfl
      have HE := hid (ordR_4 hk h4)
      clear hk h4
      go_wp2_with fail
      refine (rOrder_c _ _ HFA.out HFB.out _).mono ?_
      rintro e w' ⟨rfl, rfl⟩
      go_wp2
      go_ret
      exact ⟨by rw [HC.out, HE.out]; rfl, HBEL.out⟩
    · have t4 : (vk ra == 4) = false := by simpa using h4
      have HE := hid (ordR_cmp hk h4)
      clear hk h4
      go_wp2_with fail
      refine (rcompare_c ra rb HFA.out HFB.out _).mono ?_
      rintro e w4 ⟨rfl, hb4⟩
      have HV : Hid (vCmp ra rb = vCmpR ra rb) := hid (by unfold vCmp; rw [HRA.out, HRB.out])
      have hb5 := HBEL.out.trans (hb4.mono HBEL.out.size)
      go_wp2
      go_ret
      exact ⟨by rw [HC.out, HE.out, ← HV.out]; rfl, hb5⟩
  · have d0 : (vk ra != vk rb) = true := by simpa using hk
    have HE := hid (ordR_ne hk)
    clear hk
    go_wp2_with fail
    refine (numbers_c _ _ _).mono ?_
    rintro e w' ⟨rfl, rfl⟩
    go_wp2
    go_ret
    exact ⟨by rw [HC.out, HE.out]; rfl, HBEL.out⟩
end Go.Proofs.YtomgpkklbhdgiaaGreatDoor
