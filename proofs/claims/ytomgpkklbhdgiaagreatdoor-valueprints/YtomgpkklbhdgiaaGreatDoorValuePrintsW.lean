/- The walk of ValuePrints: for every value the law answers true. -/
import Derived.Test.YtomgpkklbhdgiaaGreatDoorVlArg
import Derived.Test.YtomgpkklbhdgiaaGreatDoorVlEq
import Derived.Test.YtomgpkklbhdgiaaGreatDoorVlPrR2
namespace Go.Proofs.YtomgpkklbhdgiaaGreatDoor
open Go.RowKit

theorem parse_print_v {v : Vl} (hf : vf v < 18446744073709551616) (n1 : -9223372036854775808 ≤ vn v) (n2 : vn v ≤ 9223372036854775807) : vP (vPrint v) = some (vRt v) := vP_of (vRt_right v) (vRt_f hf) (vRt_n1 n1) (vRt_n2 n2)
theorem print_len (v : Vl) (hf : vf v < 18446744073709551616) (n1 : -9223372036854775808 ≤ vn v) (n2 : vn v ≤ 9223372036854775807) : (vPrint v).length ≤ 281474976710656 := by
  show (vPrintR (vRt v)).length ≤ _
  have hn1 := vRt_n1 n1
  have hn2 := vRt_n2 n2
  have hf' := vRt_f hf
  rcases vRight_cases (vRt_right v) with h | ⟨n, h⟩ | h | h | ⟨s, hs, h⟩ | ⟨f, hc, h⟩
  · rw [h]; decide
  · rw [h] at hn1 hn2 ⊢
    show (digI n).length ≤ _
    have h1 : -9223372036854775808 ≤ n := hn1
    have h2 : n ≤ 9223372036854775807 := hn2
    have hl := dig_len 19 n.natAbs (by omega)
    unfold digI
    split <;> simp <;> omega
  · rw [h]; decide
  · rw [h]; decide
  · rw [h]
    show (120 :: hex2 s).length ≤ _
    rw [List.length_cons, hex2_len]
    omega
  · rw [h] at hf' ⊢
    show (fPrint f).length ≤ _
    rcases fPrint_form (v := f) hf' with (e | e | e | e) | ⟨n, hr, _, e⟩ | ⟨_, e⟩
    · rw [e]; decide
    · rw [e]; decide
    · rw [e]; decide
    · rw [e]; decide
    · rw [e]
      have := digI_len hr
      simp
      omega
    · rw [e]
      simp [hexk_len]
set_option maxRecDepth 20000 in
set_option maxHeartbeats 4000000 in
theorem coreValuePrints (v : Vl) (w : World) (hf : vf v < 18446744073709551616) (n1 : -9223372036854775808 ≤ vn v) (n2 : vn v ≤ 9223372036854775807) (hw : Lw w) :
    Calls Tryz.prog 4 #[(.agg #[.int .i64 (vk v), .int .i64 (vn v), .string (str (vs v)), .int .u64 ((vf v : Nat) : Int)])] w fun e w' => e = .returned (.bool true) ∧ Below w.heap.size w w' := by
  have HW := hid hw
  have HF := hid hf
  have HN := hid (And.intro n1 n2)
  have HP := hid (parse_print_v hf n1 n2)
  have HPL := hid (print_len v hf n1 n2)
  clear hw hf n1 n2
  have zv : (str (vs v)).size = (vs v).length := str_size _
  go_enter Tryz.func4, Tryz.ntmps4
  go_wp2_with fail
  refine (first_c _ (HW.out.below (bel1 w _))).mono ?_
  rintro e w1 ⟨rfl, hb1⟩
  have B1 := (Blk.new w 25 (cs4 v)).bel hb1 (by simp)
  have hbel := (bel1 w (.cells (cs4 v) 25)).trans (hb1.mono (by simp))
  clear hb1
  obtain ⟨p0, p1, p2, p3, -⟩ := Blk.v4 B1
  by_cases hb : 1000 < (vs v).length
  · have d1 : decide (1000 < ((vs v).length : Int)) = true := by simp; omega
    have d1' : decide (1000 < (vs v).length) = true := by simpa using hb
    clear B1 hb
    go_wp2
    go_ret
    exact ⟨rfl, hbel⟩
  have d1 : decide (1000 < ((vs v).length : Int)) = false := by simp; omega
  have d1' : decide (1000 < (vs v).length) = false := by simpa using hb
  clear hb
  go_wp2_with fail
  refine (vprint_c v HF.out HN.out.1 HN.out.2 _ (HW.out.below hbel)).mono ?_
  rintro e w2 ⟨rfl, hb2⟩
  have B2 := B1.bel hb2 B1.lt
  have hbel2 := hbel.trans (hb2.mono hbel.size)
  clear B1 hbel hb2 p0 p1 p2 p3 zv d1 d1'
  go_wp2_with fail
  refine (vparse_c (vPrint v) HPL.out _ (HW.out.below hbel2)).mono ?_
  rintro e w3 ⟨rfl, hb3⟩
  rw [HP.out]
  have HQ := hid (fun wx => rprint3_c v HF.out HN.out.1 HN.out.2 wx)
  have HY : Hid (vRight v = true → vRt v = v) := hid vRt_of
  have HNO : Hid (vRight v = false → vRt v = vNull) := hid vRt_no
  have CR := hid (fun wx => rRight_c v HF.out wx)
  generalize vPrint v = s at *
  obtain ⟨x, hx⟩ : ∃ x, x = vRt v := ⟨_, rfl⟩
  have hsome : (some (vRt v)).getD vNull = x ∧ (some (vRt v)).isSome = true := ⟨hx.symm, rfl⟩
  rw [hsome.1, hsome.2]
  rw [← hx] at HY HNO
  have B3 := (B2.bel hb3 B2.lt).old (.cells (cs4 x) 25)
  have X3 := Blk.new w3 25 (cs4 x)
  have hbel3' := hbel2.trans (hb3.mono hbel2.size)
  have hbel3 := hbel3'.alloc hbel3'.size (.cells (cs4 x) 25)
  clear B2 hbel2 hb3 hbel3' hx hsome HP HPL
  obtain ⟨p0, p1, p2, p3, -⟩ := Blk.v4 B3
  go_wp2_with fail
  refine (HQ.out _).mono ?_
  rintro e w4 ⟨rfl, hb4⟩
  have hbel4 := hbel3.trans (hb4.mono hbel3.size)
  have B4 := B3.bel hb4 B3.lt
  have X4 := X3.bel hb4 X3.lt
  clear B3 X3 hbel3 hb4 p0 p1 p2 p3 HQ
  obtain ⟨p0, p1, p2, p3, -⟩ := Blk.v4 B4
  obtain ⟨q0, q1, q2, q3, -⟩ := Blk.v4 X4
  cases hr : vRight v
  · have hxn := HNO.out hr
    have hne : x ≠ v := fun e => by rw [← e, hxn] at hr; exact absurd hr (by decide)
    have heq := eq_no hne
    rw [hr] at CR
    have z0 : vk x = 0 := by rw [hxn]; rfl
    have z1 : vn x = 0 := by rw [hxn]; rfl
    have z2 : vs x = [] := by rw [hxn]; rfl
    have z3 : vf x = 0 := by rw [hxn]; rfl
    have z4 : (str (vs x)).toList = [] := by rw [z2]; exact str_list []
    have HZ := hid (And.intro z0 (And.intro z1 (And.intro z2 z3)))
    have heq2 : ∀ wx, (Op.equalIn 10000 25 (.agg #[.int .i64 (vk x), .int .i64 (vn x), .string (str (vs x)), .int .u64 ((vf x : Nat) : Int)]) (.agg #[.int .i64 0, .int .i64 0, .string ⟨#[]⟩, .int .u64 0])).run Tryz.prog wx = .ok true wx := fun wx => by
      have h := eq_val x vNull wx
      rw [decide_eq_true hxn] at h
      exact h
    clear hr hxn hne HY HNO z0 z1 z2 z3 z4
    go_wp2_with fail
    refine (CR.out _).mono ?_
    rintro e w5 ⟨rfl, hb5⟩
    have hbel5 := hbel4.trans (hb5.mono hbel4.size)
    obtain ⟨q0, q1, q2, q3, -⟩ := Blk.v4 (X4.bel hb5 X4.lt)
    clear B4 X4 hbel4 hb5 p0 p1 p2 p3
    go_wp2
    go_ret
    exact ⟨rfl, hbel5⟩
  · have hxv := HY.out hr
    subst hxv
    clear B4 X4 HY HNO hr
    go_wp2
    go_ret
    exact ⟨rfl, hbel4⟩
theorem walkValuePrints (k1 n1 : Int) (s1 : ByteArray) (f1 : Int) (w : World) (_ : (Lit.int .i64 k1).wf = true) (h1 : (Lit.int .i64 n1).wf = true) (_ : s1.size ≤ maxLen) (g1 : (Lit.int .u64 f1).wf = true) (hw : Lw w) :
    Calls Tryz.prog 4 #[.agg #[.int .i64 k1, .int .i64 n1, .string s1, .int .u64 f1]] w fun e w' => e = .returned (.bool true) ∧ Below w.heap.size w w' := by
  obtain ⟨a, ea, fa, na, nb⟩ := vl_of (k := k1) (s := s1) h1 g1
  rw [ea]
  exact coreValuePrints a w fa na nb hw
end Go.Proofs.YtomgpkklbhdgiaaGreatDoor
