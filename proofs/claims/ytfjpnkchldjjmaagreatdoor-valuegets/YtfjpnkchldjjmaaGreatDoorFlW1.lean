/- What the functions of package float return that print and read no texts, and what they call. -/
import Derived.Test.YtfjpnkchldjjmaaGreatDoorFrame
import Derived.Test.YtfjpnkchldjjmaaGreatDoorFlIeee
import Derived.WalkLawsBesides
namespace Go.Proofs.YtfjpnkchldjjmaaGreatDoor
open Go.RowKit

theorem frombits (n : Nat) (w : World) : (callFunc 55 #[.int .u64 (n : Int)]).run Tryz.prog w = .ok (.value (.float .f64 n)) w := by
  rw [run_callFunc_extern Tryz.func55 (by kernel_rfl) (by kernel_rfl) (by kernel_rfl) (e := Extern.MathFloatBits.float64frombits) (by kernel_rfl)]
  rfl
theorem tobits (n : Nat) (w : World) : (callFunc 88 #[.float .f64 n]).run Tryz.prog w = .ok (.value (.int .u64 (n : Int))) w := by
  rw [run_callFunc_extern Tryz.func88 (by kernel_rfl) (by kernel_rfl) (by kernel_rfl) (e := Extern.MathFloatBits.float64bits) (by kernel_rfl)]
  rfl
theorem fmt64 : FloatKind.format .f64 = Ieee.double := rfl

theorem ord_nan {a b : Nat} (ha : a < 18446744073709551616) (hb : b < 18446744073709551616) (h : fCmpOk a b = false) : (FloatKind.format .f64).order a b = none := by
  show Ieee.double.order a b = none
  rw [f_order ha hb]
  unfold fCmpOk at h
  rw [Bool.not_eq_false'] at h
  rw [if_pos h]
theorem ord_lt {a b : Nat} (ha : a < 18446744073709551616) (hb : b < 18446744073709551616) (h : fCmpOk a b = true) (h2 : fNum a < fNum b) : (FloatKind.format .f64).order a b = some .lt := by
  show Ieee.double.order a b = _
  rw [f_order ha hb]
  unfold fCmpOk at h
  rw [Bool.not_eq_true'] at h
  rw [h, if_neg (by decide), cmpI, if_pos h2]
theorem ord_eq {a b : Nat} (ha : a < 18446744073709551616) (hb : b < 18446744073709551616) (h : fCmpOk a b = true) (h2 : fNum a = fNum b) : (FloatKind.format .f64).order a b = some .eq := by
  show Ieee.double.order a b = _
  rw [f_order ha hb]
  unfold fCmpOk at h
  rw [Bool.not_eq_true'] at h
  rw [h, if_neg (by decide), cmpI, if_neg (by omega), if_pos h2]
theorem ord_gt {a b : Nat} (ha : a < 18446744073709551616) (hb : b < 18446744073709551616) (h : fCmpOk a b = true) (h2 : fNum b < fNum a) : (FloatKind.format .f64).order a b = some .gt := by
  show Ieee.double.order a b = _
  rw [f_order ha hb]
  unfold fCmpOk at h
  rw [Bool.not_eq_true'] at h
  rw [h, if_neg (by decide), cmpI, if_neg (by omega), if_neg (by omega)]
theorem ok_self (u : Nat) : fCmpOk u u = !fNan u := by unfold fCmpOk; rw [Bool.or_self]

theorem isNaN_c (u : Nat) (hu : u < 18446744073709551616) (w : World) :
    Calls Tryz.prog 68 #[.int .u64 (u : Int)] w fun e w' => e = .returned (.bool (fNan u)) ∧ w = w' := by
  have hb := frombits
  cases hn : fNan u
  · have ho := ord_eq hu hu (by rw [ok_self, hn]; rfl) rfl
    go_enter Tryz.func68, Tryz.ntmps68
    go_wp2
    go_ret
    exact ⟨rfl, rfl⟩
  · have ho := ord_nan hu hu (by rw [ok_self, hn]; rfl)
    go_enter Tryz.func68, Tryz.ntmps68
    go_wp2
    go_ret
    exact ⟨rfl, rfl⟩

theorem compare_c (a b : Nat) (ha : a < 18446744073709551616) (hb : b < 18446744073709551616) (w : World) :
    Calls Tryz.prog 39 #[.int .u64 (a : Int), .int .u64 (b : Int)] w fun e w' => e = .returned (.tuple #[.int .i64 (fCmp a b), .bool (fCmpOk a b)]) ∧ w = w' := by
  have hfb := frombits
  cases hok : fCmpOk a b
  · have ho := ord_nan ha hb hok
    have hc : fCmp a b = 0 := by unfold fCmp; unfold fCmpOk at hok; rw [Bool.not_eq_false'] at hok; rw [if_pos hok]
    go_enter Tryz.func39, Tryz.ntmps39
    go_wp2
    go_ret2
    first | exact ⟨rfl, rfl⟩ | exact ⟨by rw [hc]; rfl, rfl⟩
  · have hc : fCmp a b = sgn (fNum a - fNum b) := by unfold fCmp; unfold fCmpOk at hok; rw [Bool.not_eq_true'] at hok; rw [hok, if_neg (by decide)]
    rcases Int.lt_trichotomy (fNum a) (fNum b) with h | h | h
    · have ho := ord_lt ha hb hok h
      go_enter Tryz.func39, Tryz.ntmps39
      go_wp2
      go_ret2
      exact ⟨(by rw [hc]; unfold sgn; rw [if_pos (by omega)]; try rfl), rfl⟩
    · have ho := ord_eq ha hb hok h
      go_enter Tryz.func39, Tryz.ntmps39
      go_wp2
      go_ret2
      exact ⟨by rw [hc, h, Int.sub_self]; rfl, rfl⟩
    · have ho := ord_gt ha hb hok h
      go_enter Tryz.func39, Tryz.ntmps39
      go_wp2
      go_ret2
      exact ⟨(by rw [hc]; unfold sgn; rw [if_neg (by omega), if_neg (by omega)]; try rfl), rfl⟩

theorem canon_c (u : Nat) (hu : u < 18446744073709551616) (w : World) :
    Calls Tryz.prog 51 #[.int .u64 (u : Int)] w fun e w' => e = .returned (.int .u64 (fCanon u : Int)) ∧ w = w' := by
  cases hn : fNan u
  · go_enter Tryz.func51, Tryz.ntmps51
    go_wp2_with fail
    refine (isNaN_c u hu w).mono ?_
    rintro e w' ⟨rfl, rfl⟩
    rw [hn]
    go_wp2
    go_ret
    exact ⟨by unfold fCanon; rw [hn]; rfl, rfl⟩
  · go_enter Tryz.func51, Tryz.ntmps51
    go_wp2_with fail
    refine (isNaN_c u hu w).mono ?_
    rintro e w' ⟨rfl, rfl⟩
    rw [hn]
    go_wp2
    go_ret
    exact ⟨by unfold fCanon; rw [hn]; rfl, rfl⟩

theorem nanRank_c (u : Nat) (hu : u < 18446744073709551616) (w : World) :
    Calls Tryz.prog 65 #[.int .u64 (u : Int)] w fun e w' => e = .returned (.int .i64 (if fNan u then 1 else 0)) ∧ w = w' := by
  cases hn : fNan u
  · go_enter Tryz.func65, Tryz.ntmps65
    go_wp2_with fail
    refine (isNaN_c u hu w).mono ?_
    rintro e w' ⟨rfl, rfl⟩
    rw [hn]
    go_wp2
    go_ret
    exact ⟨rfl, rfl⟩
  · go_enter Tryz.func65, Tryz.ntmps65
    go_wp2_with fail
    refine (isNaN_c u hu w).mono ?_
    rintro e w' ⟨rfl, rfl⟩
    rw [hn]
    go_wp2
    go_ret
    exact ⟨rfl, rfl⟩

theorem cmpI_c (x y : Int) (w : World) : Calls Tryz.prog 37 #[.int .i64 x, .int .i64 y] w fun e w' => e = .returned (.int .i64 (sgn (x - y))) ∧ w = w' := by
  rcases Int.lt_trichotomy x y with h | h | h
  · have h1 : decide (x < y) = true := by simpa using h
    go_enter Tryz.func37, Tryz.ntmps37
    go_wp2
    go_ret
    exact ⟨(by unfold sgn; rw [if_pos (by omega)]; try rfl), rfl⟩
  · subst h
    go_enter Tryz.func37, Tryz.ntmps37
    go_wp2
    go_ret
    exact ⟨by rw [Int.sub_self]; rfl, rfl⟩
  · have h1 : decide (x < y) = false := by simp; omega
    have h2 : decide (y < x) = true := by simpa using h
    go_enter Tryz.func37, Tryz.ntmps37
    go_wp2
    go_ret
    exact ⟨(by unfold sgn; rw [if_neg (by omega), if_neg (by omega)]; try rfl), rfl⟩
theorem cmpU_c (x y : Nat) (w : World) : Calls Tryz.prog 66 #[.int .u64 (x : Int), .int .u64 (y : Int)] w fun e w' => e = .returned (.int .i64 (sgn ((x : Int) - y))) ∧ w = w' := by
  rcases Nat.lt_trichotomy x y with h | h | h
  · have h1 : decide (x < y) = true := by simpa using h
    go_enter Tryz.func66, Tryz.ntmps66
    go_wp2
    go_ret
    exact ⟨(by unfold sgn; rw [if_pos (by omega)]; try rfl), rfl⟩
  · subst h
    go_enter Tryz.func66, Tryz.ntmps66
    go_wp2
    go_ret
    exact ⟨by rw [Int.sub_self]; rfl, rfl⟩
  · have h1 : decide (x < y) = false := by simp; omega
    have h2 : decide (y < x) = true := by simpa using h
    go_enter Tryz.func66, Tryz.ntmps66
    go_wp2
    go_ret
    exact ⟨(by unfold sgn; rw [if_neg (by omega), if_neg (by omega)]; try rfl), rfl⟩

theorem order_c (a b : Nat) (ha : a < 18446744073709551616) (hb : b < 18446744073709551616) (w : World) :
    Calls Tryz.prog 44 #[.int .u64 (a : Int), .int .u64 (b : Int)] w fun e w' => e = .returned (.int .i64 (fOrd a b)) ∧ w = w' := by
  have na := fNan_false a ha
  have nb := fNan_false b hb
  cases hok : fCmpOk a b
  · go_enter Tryz.func44, Tryz.ntmps44
    go_wp2_with fail
    refine (compare_c a b ha hb w).mono ?_
    rintro e w' ⟨rfl, rfl⟩
    rw [hok]
    go_wp2_with fail
    refine (nanRank_c a ha w).mono ?_
    rintro e w' ⟨rfl, rfl⟩
    generalize hra : (if fNan a then (1 : Int) else 0) = ra
    go_wp2_with fail
    refine (nanRank_c b hb w).mono ?_
    rintro e w' ⟨rfl, rfl⟩
    generalize hrb : (if fNan b then (1 : Int) else 0) = rb
    go_wp2_with fail
    refine (cmpI_c _ _ w).mono ?_
    rintro e w' ⟨rfl, rfl⟩
    go_wp2
    go_ret
    refine ⟨?_, rfl⟩
    congr 2
    subst hra hrb
    unfold fCmpOk at hok
    rw [Bool.not_eq_false'] at hok
    unfold fOrd fKey
    cases h1 : fNan a <;> cases h2 : fNan b <;> simp only [h1, h2, Bool.or_self, Bool.false_eq_true, if_false, if_true] at * <;> unfold sgn <;> (repeat' split) <;> first | rfl | omega | skip
  · have hx := hok
    unfold fCmpOk at hx
    simp at hx
    by_cases h0 : fCmp a b = 0
    · have hd : (fCmp a b != 0) = false := by simpa using h0
      go_enter Tryz.func44, Tryz.ntmps44
      go_wp2_with fail
      refine (compare_c a b ha hb w).mono ?_
      rintro e w' ⟨rfl, rfl⟩
      rw [hok]
      go_wp2_with fail
      refine (cmpU_c _ _ w).mono ?_
      rintro e w' ⟨rfl, rfl⟩
      go_wp2
      go_ret
      refine ⟨?_, rfl⟩
      show Ending.returned (.int .i64 (sgn ((b : Int) - (a : Int)))) = _
      congr 2
      have hc : fCmp a b = sgn (fNum a - fNum b) := by unfold fCmp; rw [hx.1, hx.2]; rfl
      rw [hc, sgn_zero] at h0
      unfold fOrd fKey
      rw [hx.1, hx.2]
      have h1 := na.1 hx.1
      have h2 := nb.1 hx.2
      simp only [Bool.false_eq_true, if_false]
      unfold fNum at h0
      by_cases c1 : a < 9223372036854775808 <;> by_cases c2 : b < 9223372036854775808 <;> simp only [c1, c2, if_true, if_false] at h0 ⊢ <;> unfold sgn <;> (repeat' split) <;> omega
    · have hd : (fCmp a b != 0) = true := by simpa using h0
      go_enter Tryz.func44, Tryz.ntmps44
      go_wp2_with fail
      refine (compare_c a b ha hb w).mono ?_
      rintro e w' ⟨rfl, rfl⟩
      rw [hok]
      go_wp2
      go_ret
      exact ⟨by rw [fOrd_cmp ha hb hok h0]; rfl, rfl⟩

/-- The float of a number, 0 if there is none. -/
def fFrom (n : Int) : Nat := if inRange n then fOfInt n else 0
theorem fFrom_no {n : Int} (h : inRange n = false) : fFrom n = 0 := by unfold fFrom; rw [h]; rfl
theorem fFrom_is {n : Int} (h : inRange n = true) : fFrom n = fOfInt n := by unfold fFrom; rw [h]; rfl
theorem fromInt_c (n : Int) (w : World) :
    Calls Tryz.prog 92 #[.int .i64 n] w fun e w' => e = .returned (.tuple #[.int .u64 (fFrom n : Int), .bool (inRange n)]) ∧ w = w' := by
  have hfb := tobits
  by_cases h1 : n < -9007199254740992
  · have hr : inRange n = false := by unfold inRange; simp; omega
    have hz := hid (fFrom_no hr)
    have d1 : decide (n < -9007199254740992) = true := by simpa using h1
    go_enter Tryz.func92, Tryz.ntmps92
    go_wp2
    go_ret2
    first | exact ⟨by rw [hz.out]; rfl, rfl⟩ | exact ⟨by rw [hr, hz.out]; rfl, rfl⟩
  · have d1 : decide (n < -9007199254740992) = false := by simpa using h1
    by_cases h2 : 9007199254740992 < n
    · have hr : inRange n = false := by unfold inRange; simp; omega
      have hz := hid (fFrom_no hr)
      have d2 : decide (9007199254740992 < n) = true := by simpa using h2
      go_enter Tryz.func92, Tryz.ntmps92
      go_wp2
      go_ret2
      first | exact ⟨by rw [hz.out]; rfl, rfl⟩ | exact ⟨by rw [hr, hz.out]; rfl, rfl⟩
    · have hr : inRange n = true := by unfold inRange; simp; omega
      have d2 : decide (9007199254740992 < n) = false := by simpa using h2
      have hz := hid (fFrom_is hr)
      have hf : floatOfInt .f64 n = fOfInt n := f_nearest hr
      go_enter Tryz.func92, Tryz.ntmps92
      go_wp2
      go_ret2
      first | exact ⟨by rw [hz.out]; rfl, rfl⟩ | exact ⟨by rw [hr, hz.out]; rfl, rfl⟩

theorem whole_small {u : Nat} (hu : u < 18446744073709551616) {n : Int} (h : fWhole u = some n) : u % 9223372036854775808 ≤ 4845873199050653696 := by
  obtain ⟨hr, h | h⟩ := fWhole_some hu h
  · have := wBits_lt (k := n.natAbs) (by unfold inRange at hr; simp at hr; omega)
    rw [← h]
    unfold fOfInt
    split <;> omega
  · omega
theorem whole_nz : fWhole 9223372036854775808 = some 0 := by decide

theorem toInt_c (u : Nat) (hu : u < 18446744073709551616) (w : World) :
    Calls Tryz.prog 77 #[.int .u64 (u : Int)] w fun e w' => e = .returned (.tuple #[.int .i64 ((fWhole u).getD 0), .bool (fWhole u).isSome]) ∧ w = w' := by
  have hfb := frombits
  have n1 : fNan 14069245235905429504 = false := by decide
  have n2 : fNan 4845873199050653696 = false := by decide
  by_cases hs : u % 9223372036854775808 ≤ 4845873199050653696
  · have hn : fNan u = false := by rw [fNan_false u hu]; omega
    have k1 : fCmpOk u 14069245235905429504 = true := by unfold fCmpOk; rw [hn, n1]; rfl
    have k2 : fCmpOk u 4845873199050653696 = true := by unfold fCmpOk; rw [hn, n2]; rfl
    have e1 : fNum 14069245235905429504 = -4845873199050653696 := by decide
    have e2 : fNum 4845873199050653696 = 4845873199050653696 := by decide
    have lo : ((FloatKind.format .f64).order u 14069245235905429504 == some .gt || (FloatKind.format .f64).order u 14069245235905429504 == some .eq) = true := by
      by_cases h : fNum u = -4845873199050653696
      · rw [ord_eq hu (by omega) k1 (by rw [h, e1])]; rfl
      · rw [ord_gt hu (by omega) k1 (by rw [e1]; unfold fNum at *; split at h <;> split <;> omega)]; rfl
    have hi : ((FloatKind.format .f64).order u 4845873199050653696 == some .lt || (FloatKind.format .f64).order u 4845873199050653696 == some .eq) = true := by
      by_cases h : fNum u = 4845873199050653696
      · rw [ord_eq hu (by omega) k2 (by rw [h, e2])]; rfl
      · rw [ord_lt hu (by omega) k2 (by rw [e2]; unfold fNum at *; split at h <;> split <;> omega)]; rfl
    obtain ⟨n, hcut, hr⟩ := f_cut hu hs
    obtain ⟨l1, l2⟩ := fOfInt_lt hr
    have hr' := hr
    unfold inRange at hr'
    simp at hr'
    have hcv : ∀ w, (convert 81 3 (.float .f64 u)).run Tryz.prog w = .ok (.int .i64 n) w := fun w => run_convert_float_int w 81 3 .f64 .i64 u n (by rw [Tryz.underlying81]; rfl) Tryz.underlying3 (by
      unfold floatToIntVal
      show (match (Ieee.double.read u).toInt .zero with | some n => _ | none => _) = _
      rw [hcut]
      have e1 : IntKind.i64.min = -9223372036854775808 := rfl
      have e2 : IntKind.i64.max = 9223372036854775807 := rfl
      simp only [e1, e2]
      rw [if_pos (by omega)])
    have hf : floatOfInt .f64 n = fOfInt n := f_nearest hr
    have k3 : fCmpOk (fOfInt n) u = true := by unfold fCmpOk; rw [hn, l2]; rfl
    rcases Int.lt_trichotomy (fNum (fOfInt n)) (fNum u) with h | h | h
    · have ho := ord_lt l1 hu k3 h
      have hw : fWhole u = none := by
        cases hx : fWhole u with
        | none => rfl
        | some m =>
          obtain ⟨hm, h3 | h3⟩ := fWhole_some hu hx
          · have := f_toInt hm
            rw [h3, hcut] at this
            injection this with this
            rw [this, h3] at h; omega
          · obtain ⟨rfl, rfl⟩ := h3
            have e : (Ieee.double.read 9223372036854775808).toInt .zero = some 0 := by decide
            rw [e] at hcut; injection hcut with hcut; subst hcut
            revert h; decide
      go_enter Tryz.func77, Tryz.ntmps77
      go_wp2
      go_ret2
      first | exact ⟨rfl, rfl⟩ | exact ⟨by rw [hw]; rfl, rfl⟩
    · have ho := ord_eq l1 hu k3 h
      have hw : fWhole u = some n := by
        by_cases hz : u = 9223372036854775808
        · subst hz
          have e : (Ieee.double.read 9223372036854775808).toInt .zero = some 0 := by decide
          rw [e] at hcut; injection hcut with hcut; subst hcut
          exact whole_nz
        · have : fOfInt n = u := by
            by_cases hz2 : fOfInt n = 9223372036854775808
            · exfalso
              rw [fOfInt_num hr] at h
              have hb : n.natAbs = 0 ∨ 0 < wBits n.natAbs := by
                rcases Nat.eq_zero_or_pos n.natAbs with h0 | h0
                · exact .inl h0
                · right; have := wBits_mono (a := 0) (b := n.natAbs) h0 (by omega); omega
              unfold fOfInt at hz2
              split at hz2 <;> rcases hb with hb | hb <;> first | omega | (have : wBits n.natAbs ≤ 4845873199050653696 := wBits_lt (by omega); omega)
            · unfold fNum at h
              split at h <;> split at h <;> omega
          rw [← this]; exact fWhole_of hr
      go_enter Tryz.func77, Tryz.ntmps77
      go_wp2
      go_ret2
      first | exact ⟨rfl, rfl⟩ | exact ⟨by rw [hw]; rfl, rfl⟩
    · have ho := ord_gt l1 hu k3 h
      have hw : fWhole u = none := by
        cases hx : fWhole u with
        | none => rfl
        | some m =>
          obtain ⟨hm, h3 | h3⟩ := fWhole_some hu hx
          · have := f_toInt hm
            rw [h3, hcut] at this
            injection this with this
            rw [this, h3] at h; omega
          · obtain ⟨rfl, rfl⟩ := h3
            have e : (Ieee.double.read 9223372036854775808).toInt .zero = some 0 := by decide
            rw [e] at hcut; injection hcut with hcut; subst hcut
            revert h; decide
      go_enter Tryz.func77, Tryz.ntmps77
      go_wp2
      go_ret2
      first | exact ⟨rfl, rfl⟩ | exact ⟨by rw [hw]; rfl, rfl⟩
  · have hw : fWhole u = none := by
      cases hx : fWhole u with
      | none => rfl
      | some m => exact absurd (whole_small hu hx) hs
    cases hn : fNan u
    · have k1 : fCmpOk u 14069245235905429504 = true := by unfold fCmpOk; rw [hn, n1]; rfl
      have k2 : fCmpOk u 4845873199050653696 = true := by unfold fCmpOk; rw [hn, n2]; rfl
      have e1 : fNum 14069245235905429504 = -4845873199050653696 := by decide
      have e2 : fNum 4845873199050653696 = 4845873199050653696 := by decide
      by_cases hg : u < 9223372036854775808
      · have lo := ord_gt hu (by omega) k1 (by rw [e1]; unfold fNum; split <;> omega)
        have hi := ord_gt hu (by omega) k2 (by rw [e2]; unfold fNum; split <;> omega)
        go_enter Tryz.func77, Tryz.ntmps77
        go_wp2
        go_ret2
        first | exact ⟨rfl, rfl⟩ | exact ⟨by rw [hw]; rfl, rfl⟩
      · have lo := ord_lt hu (by omega) k1 (by rw [e1]; unfold fNum; split <;> omega)
        go_enter Tryz.func77, Tryz.ntmps77
        go_wp2
        go_ret2
        first | exact ⟨rfl, rfl⟩ | exact ⟨by rw [hw]; rfl, rfl⟩
    · have lo := ord_nan hu (b := 14069245235905429504) (by omega) (by unfold fCmpOk; rw [hn]; rfl)
      go_enter Tryz.func77, Tryz.ntmps77
      go_wp2
      go_ret2
      first | exact ⟨rfl, rfl⟩ | exact ⟨by rw [hw]; rfl, rfl⟩
end Go.Proofs.YtfjpnkchldjjmaaGreatDoor
