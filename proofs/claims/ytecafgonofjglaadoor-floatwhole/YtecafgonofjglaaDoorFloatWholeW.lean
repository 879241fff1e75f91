/- The walk of FloatWhole: for every two numbers the law answers true. -/
import Derived.Test.YtecafgonofjglaaDoorFlFirst
namespace Go.Proofs.YtecafgonofjglaaDoor
open Go.RowKit

theorem print_whole {n : Int} (h : inRange n = true) : fPrint (fOfInt n) = digI n ++ [46] := by
  obtain ⟨h1, h2⟩ := fOfInt_lt h
  have hb := wBits_lt (k := n.natAbs) (by unfold inRange at h; simp at h; omega)
  have h3 : fOfInt n ≠ 9218868437227405312 := by unfold fOfInt; split <;> omega
  have h4 : fOfInt n ≠ 18442240474082181120 := by unfold fOfInt; split <;> omega
  have h5 : fOfInt n ≠ 9223372036854775808 := by
    unfold fOfInt
    split
    · have := wBits_mono (a := 0) (b := n.natAbs) (by omega) (by unfold inRange at h; simp at h; omega); omega
    · omega
  rw [fPrint_not h2, if_neg h3, if_neg h4, if_neg h5, fWhole_of h]
theorem fOfInt_ord {a b : Int} (ha : inRange a = true) (hb : inRange b = true) : fOrd (fOfInt a) (fOfInt b) = sgn (a - b) := by
  obtain ⟨h1, h2⟩ := fOfInt_cmp ha hb
  by_cases h : a = b
  · subst h; unfold fOrd; rw [Int.sub_self, Int.sub_self]
  · rw [← h2]
    refine fOrd_cmp (fOfInt_lt ha).1 (fOfInt_lt hb).1 h1 ?_
    rw [h2]
    intro h0
    rw [sgn_zero] at h0
    omega

set_option maxHeartbeats 4000000 in
theorem walkFloatWhole (a b : Int) (w : World) (_ha : (Lit.int .i64 a).wf = true) (_hb : (Lit.int .i64 b).wf = true) (hw : Lw w) :
    Calls Tryd.prog 9 #[.int .i64 a, .int .i64 b] w fun e w' => e = .returned (.bool true) ∧ Below w.heap.size w w' := by
  have HW := hid hw
  clear hw _ha _hb
  cases hra : inRange a
  · go_enter Tryd.func9, Tryd.ntmps9
    go_wp2_with fail
    refine (first_c w HW.out).mono ?_
    rintro e w1 ⟨rfl, hbel⟩
    go_wp2_with fail
    refine (fromInt_c a w1).mono ?_
    rintro e w' ⟨rfl, rfl⟩
    rw [hra]
    go_wp2_with fail
    refine (fromInt_c b w1).mono ?_
    rintro e w' ⟨rfl, rfl⟩
    go_wp2
    go_ret
    exact ⟨rfl, hbel⟩
  cases hrb : inRange b
  · go_enter Tryd.func9, Tryd.ntmps9
    go_wp2_with fail
    refine (first_c w HW.out).mono ?_
    rintro e w1 ⟨rfl, hbel⟩
    go_wp2_with fail
    refine (fromInt_c a w1).mono ?_
    rintro e w' ⟨rfl, rfl⟩
    rw [hra]
    go_wp2_with fail
    refine (fromInt_c b w1).mono ?_
    rintro e w' ⟨rfl, rfl⟩
    rw [hrb]
    go_wp2
    go_ret
    exact ⟨rfl, hbel⟩
  obtain ⟨x, hx⟩ : ∃ x, x = fFrom a := ⟨_, rfl⟩
  obtain ⟨y, hy⟩ : ∃ y, y = fFrom b := ⟨_, rfl⟩
  have hx2 := hx.trans (fFrom_is hra)
  have hy2 := hy.trans (fFrom_is hrb)
  have lx : x < 18446744073709551616 := by rw [hx2]; exact (fOfInt_lt hra).1
  have ly : y < 18446744073709551616 := by rw [hy2]; exact (fOfInt_lt hrb).1
  have HC : Hid (fCmpOk x y = true ∧ fCmp x y = sgn (a - b) ∧ fOrd x y = sgn (a - b)) := hid (by
    rw [hx2, hy2]; exact ⟨(fOfInt_cmp hra hrb).1, (fOfInt_cmp hra hrb).2, fOfInt_ord hra hrb⟩)
  have HP : Hid (fPrint x = digI a ++ [46]) := hid (by rw [hx2]; exact print_whole hra)
  have deq : (((x : Int) == (y : Int)) == (a == b)) = true := by
    have h := fOfInt_inj hra hrb
    rw [← hx2, ← hy2] at h
    by_cases hc : a = b
    · rw [show ((x : Int) == (y : Int)) = true by simp; have := h.2 hc; omega, show (a == b) = true by simpa using hc]; rfl
    · have h0 : ¬ x = y := fun e => hc (h.1 e)
      rw [show ((x : Int) == (y : Int)) = false by simp; omega, show (a == b) = false by simpa using hc]; rfl
  have hlen : (digI a).length ≤ 18 := digI_len hra
  have EX := hid hx
  have EY := hid hy
  clear hx hy hx2 hy2
  obtain ⟨n, hn⟩ : ∃ n, n = (digI a).length := ⟨_, rfl⟩
  have hsz : (str (digI a ++ [46])).size = n + 1 := by rw [str_size]; simp; omega
  have HSZ := hid hsz
  have hidx : ∀ wx, (Instr.index 9 (.string (str (digI a ++ [46]))) (.int .i64 (n : Int))).run Tryd.prog wx = .ok (.int .u8 46) wx := fun wx => by
    rw [run_index_string wx 9 _ .i64 n Tryd.underlying9, dif_pos (by rw [hsz]; omega)]
    congr 3
    have h1 : (str (digI a ++ [46]))[n]'(by rw [hsz]; omega) = 46 := by
      show (digI a ++ [46]).toArray[n]'(by simp; omega) = 46
      simp [hn]
    exact congrArg UInt8.toNat h1
  have wl : wrap64 (((str (digI a ++ [46])).size : Int) - 1) = (n : Int) := by rw [hsz]; unfold wrap64; omega
  have wl' : ((str (digI a ++ [46])).size : Int) - 1 = (n : Int) := by rw [hsz]; omega
  have wl2 : wrap64 (n : Int) = (n : Int) := by unfold wrap64; omega
  clear hsz hlen hn
  obtain ⟨v, hv⟩ : ∃ v, v = sgn (a - b) := ⟨_, rfl⟩
  have HV := hid hv
  rw [← hv] at HC
  clear hv
  rcases Int.lt_trichotomy a b with h | h | h
  · have d1 : decide (a < b) = true := by simpa using h
    have d2 : decide (b < a) = false := by simp; omega
    have d3 : v = -1 := by rw [HV.out]; unfold sgn; rw [if_pos (by omega)]
    subst d3
    clear h
    go_enter Tryd.func9, Tryd.ntmps9
    go_wp2_with fail
    refine (first_c w HW.out).mono ?_
    rintro e w1 ⟨rfl, hbel⟩
    have HW1 := hid (HW.out.below hbel)
    go_wp2_with fail
    refine (fromInt_c a w1).mono ?_
    rintro e w' ⟨rfl, rfl⟩
    rw [hra, ← EX.out]
    go_wp2_with fail
    refine (fromInt_c b w1).mono ?_
    rintro e w' ⟨rfl, rfl⟩
    rw [hrb, ← EY.out]
    go_wp2_with fail
    refine (compare_c x y lx ly w1).mono ?_
    rintro e w' ⟨rfl, rfl⟩
    rw [HC.out.1, HC.out.2.1]
    go_wp2_with fail
    refine (print_c x lx w1 HW1.out).mono ?_
    rintro e w2 ⟨rfl, hb2⟩
    rw [HP.out]
    have hbel2 := hbel.trans (hb2.mono hbel.size)
    clear hb2 hbel
    go_wp2_with fail
    refine (order_c x y lx ly w2).mono ?_
    rintro e w' ⟨rfl, rfl⟩
    rw [HC.out.2.2]
    go_wp2
    go_ret
    exact ⟨rfl, hbel2⟩
  · have d1 : decide (a < b) = false := by simp; omega
    have d2 : decide (b < a) = false := by simp; omega
    have d3 : v = 0 := by rw [HV.out, h, Int.sub_self]; rfl
    subst d3
    clear h
    go_enter Tryd.func9, Tryd.ntmps9
    go_wp2_with fail
    refine (first_c w HW.out).mono ?_
    rintro e w1 ⟨rfl, hbel⟩
    have HW1 := hid (HW.out.below hbel)
    go_wp2_with fail
    refine (fromInt_c a w1).mono ?_
    rintro e w' ⟨rfl, rfl⟩
    rw [hra, ← EX.out]
    go_wp2_with fail
    refine (fromInt_c b w1).mono ?_
    rintro e w' ⟨rfl, rfl⟩
    rw [hrb, ← EY.out]
    go_wp2_with fail
    refine (compare_c x y lx ly w1).mono ?_
    rintro e w' ⟨rfl, rfl⟩
    rw [HC.out.1, HC.out.2.1]
    go_wp2_with fail
    refine (print_c x lx w1 HW1.out).mono ?_
    rintro e w2 ⟨rfl, hb2⟩
    rw [HP.out]
    have hbel2 := hbel.trans (hb2.mono hbel.size)
    clear hb2 hbel
    go_wp2_with fail
    refine (order_c x y lx ly w2).mono ?_
    rintro e w' ⟨rfl, rfl⟩
    rw [HC.out.2.2]
    go_wp2
    go_ret
    exact ⟨rfl, hbel2⟩
  · have d1 : decide (a < b) = false := by simp; omega
    have d2 : decide (b < a) = true := by simpa using h
    have d3 : v = 1 := by rw [HV.out]; unfold sgn; rw [if_neg (by omega), if_neg (by omega)]
    subst d3
    clear h
    go_enter Tryd.func9, Tryd.ntmps9
    go_wp2_with fail
    refine (first_c w HW.out).mono ?_
    rintro e w1 ⟨rfl, hbel⟩
    have HW1 := hid (HW.out.below hbel)
    go_wp2_with fail
    refine (fromInt_c a w1).mono ?_
    rintro e w' ⟨rfl, rfl⟩
    rw [hra, ← EX.out]
    go_wp2_with fail
    refine (fromInt_c b w1).mono ?_
    rintro e w' ⟨rfl, rfl⟩
    rw [hrb, ← EY.out]
    go_wp2_with fail
    refine (compare_c x y lx ly w1).mono ?_
    rintro e w' ⟨rfl, rfl⟩
    rw [HC.out.1, HC.out.2.1]
    go_wp2_with fail
    refine (print_c x lx w1 HW1.out).mono ?_
    rintro e w2 ⟨rfl, hb2⟩
    rw [HP.out]
    have hbel2 := hbel.trans (hb2.mono hbel.size)
    clear hb2 hbel
    go_wp2_with fail
    refine (order_c x y lx ly w2).mono ?_
    rintro e w' ⟨rfl, rfl⟩
    rw [HC.out.2.2]
    go_wp2
    go_ret
    exact ⟨rfl, hbel2⟩
end Go.Proofs.YtecafgonofjglaaDoor
