/- The walk of FloatTurns: for every two floats the law answers true. -/
import Derived.Test.YtecafgonofjglaaDoorFlFirst
import Derived.Laws.BitsAllLaws
namespace Go.Proofs.YtecafgonofjglaaDoor
open Go.RowKit

theorem xor63 (a : Nat) (h : a < 18446744073709551616) : bits .xor .u64 (a : Int) 9223372036854775808 = (fFlip a : Int) := by
  have h1 := u64_xor_nat a 9223372036854775808 h (by omega)
  rw [flip_xor a h] at h1
  exact h1
theorem andn63 (a : Nat) (h : a < 18446744073709551616) : bits .andNot .u64 (a : Int) 9223372036854775808 = ((a % 9223372036854775808 : Nat) : Int) := by
  have h1 := u64_andNot_nat a 9223372036854775808 h (by omega)
  have h2 : a &&& 9223372036854775807 = a % 9223372036854775808 := Nat.and_two_pow_sub_one_eq_mod a 63
  rw [show 18446744073709551615 - 9223372036854775808 = 9223372036854775807 by decide, h2] at h1
  exact h1
theorem fCmp_small (a b : Nat) : -1 ≤ fCmp a b ∧ fCmp a b ≤ 1 := by
  unfold fCmp
  split
  · omega
  · rcases sgn_cases (fNum a - fNum b) with h | h | h <;> omega
theorem fOrd_sm (a b : Nat) : -1 ≤ fOrd a b ∧ fOrd a b ≤ 1 := by rcases sgn_cases (fKey a - fKey b) with h | h | h <;> unfold fOrd <;> omega

set_option maxHeartbeats 4000000 in
theorem walkFloatTurns (a0 b0 : Int) (w : World) (ha : (Lit.int .u64 a0).wf = true) (hb : (Lit.int .u64 b0).wf = true) (hw : Lw w) :
    Calls Tryd.prog 8 #[.int .u64 a0, .int .u64 b0] w fun e w' => e = .returned (.bool true) ∧ Below w.heap.size w w' := by
  obtain ⟨a1, a2⟩ := wf_u64 ha
  obtain ⟨b1, b2⟩ := wf_u64 hb
  obtain ⟨a, rfl⟩ : ∃ a : Nat, a0 = (a : Int) := ⟨a0.toNat, by omega⟩
  obtain ⟨b, rfl⟩ : ∃ b : Nat, b0 = (b : Int) := ⟨b0.toNat, by omega⟩
  have ha' : a < 18446744073709551616 := by omega
  have hb' : b < 18446744073709551616 := by omega
  have HW := hid hw
  clear hw ha hb a1 a2 b1 b2
  obtain ⟨fa, hfa⟩ : ∃ fa, fa = fFlip a := ⟨_, rfl⟩
  obtain ⟨fb, hfb⟩ : ∃ fb, fb = fFlip b := ⟨_, rfl⟩
  have la : fa < 18446744073709551616 := by rw [hfa]; exact fFlip_lt ha'
  have lb : fb < 18446744073709551616 := by rw [hfb]; exact fFlip_lt hb'
  have xa : bits .xor .u64 (a : Int) 9223372036854775808 = (fa : Int) := by rw [hfa]; exact xor63 a ha'
  have xb : bits .xor .u64 (b : Int) 9223372036854775808 = (fb : Int) := by rw [hfb]; exact xor63 b hb'
  obtain ⟨c, hc⟩ : ∃ c, c = fCmp a b := ⟨_, rfl⟩
  obtain ⟨d, hd⟩ : ∃ d, d = fCmp fa fb := ⟨_, rfl⟩
  obtain ⟨t, ht⟩ : ∃ t, t = fCmpOk a b := ⟨_, rfl⟩
  obtain ⟨o, ho⟩ : ∃ o, o = fOrd a b := ⟨_, rfl⟩
  obtain ⟨p, hp⟩ : ∃ p, p = fOrd fa fb := ⟨_, rfl⟩
  have HT2 : Hid (fCmpOk fa fb = t) := hid (by rw [hfa, hfb, ht]; exact fCmpOk_flip ha' hb')
  have HCD : Hid (c = -d ∧ -1 ≤ d ∧ d ≤ 1) := hid ⟨by rw [hc, hd, hfa, hfb]; exact fCmp_flip ha' hb', by rw [hd]; exact fCmp_small fa fb⟩
  have HOP : Hid (t = true → o = -p) := hid (fun h => by rw [ho, hp, hfa, hfb]; exact fOrd_flip ha' hb' (by rw [← ht]; exact h))
  have HPB : Hid (-1 ≤ p ∧ p ≤ 1) := hid (by rw [hp]; exact fOrd_sm fa fb)
  have HOC : Hid (t = true → c ≠ 0 → o = c) := hid (fun h h2 => by rw [ho, hc]; exact fOrd_cmp ha' hb' (by rw [← ht]; exact h) (by rw [← hc]; exact h2))
  have EC := hid hc
  have ED := hid hd
  have ET := hid ht
  have EO := hid ho
  have EP := hid hp
  clear hfa hfb hc hd ht ho hp
  have w1 : IntKind.i64.wrap (-d) = c := (IntWalk.i64_in _ (by have := HCD.out; omega)).trans (by have := HCD.out; omega)
  obtain ⟨m, hm⟩ : ∃ m, m = a % 9223372036854775808 := ⟨_, rfl⟩
  have hml : m < 9223372036854775808 := by omega
  obtain ⟨M, hM⟩ : ∃ M : Int, M = (m : Int) := ⟨_, rfl⟩
  have nm : bits .andNot .u64 (a : Int) 9223372036854775808 = M := by rw [hM, hm]; exact andn63 a ha'
  have HM := hid (And.intro hM hml)
  clear hm hM hml
  have dt : (t == t) = true := by cases t <;> rfl
  go_enter Tryd.func8, Tryd.ntmps8
  go_wp2_with fail
  refine (first_c w HW.out).mono ?_
  rintro e w1' ⟨rfl, hbel⟩
  go_wp2_with fail
  refine (compare_c a b ha' hb' _).mono ?_
  rintro e w' ⟨rfl, rfl⟩
  rw [← EC.out, ← ET.out]
  go_wp2_with fail
  refine (compare_c fa fb la lb _).mono ?_
  rintro e w' ⟨rfl, rfl⟩
  rw [← ED.out, HT2.out]
  cases htt : t
  · subst htt
    go_wp2
    go_ret
    exact ⟨rfl, hbel⟩
  · have h1 := HOP.out htt
    have h2 := HOC.out htt
    subst htt
    have w2 : IntKind.i64.wrap (-p) = o := (IntWalk.i64_in _ (by have := HPB.out; omega)).trans (by omega)
    have H2 := hid h2
    clear h1 h2
    go_wp2_with fail
    refine (order_c a b ha' hb' _).mono ?_
    rintro e w' ⟨rfl, rfl⟩
    rw [← EO.out]
    go_wp2_with fail
    refine (order_c fa fb la lb _).mono ?_
    rintro e w' ⟨rfl, rfl⟩
    rw [← EP.out]
    have tail : m < 9218868437227405311 → Hid (fCmpOk m (m + 1) = true ∧ fCmp m (m + 1) = -1 ∧ fOrd m (m + 1) = -1) := fun h => hid (fStep h)
    by_cases hc0 : c = 0
    · have e1 : (c != 0) = false := by simpa using hc0
      have HC0 := hid hc0
      clear hc0
      by_cases hmb : m < 9218868437227405311
      · have HS := tail hmb
        have e2 : decide ((9218868437227405311 : Int) ≤ M) = false := by have := HM.out; simp; omega
        obtain ⟨M1, hM1⟩ : ∃ M1 : Int, M1 = ((m + 1 : Nat) : Int) := ⟨_, rfl⟩
        have w3 : IntKind.u64.wrap (M + 1) = M1 := (IntWalk.u64_in _ (by have := HM.out; omega)).trans (by have := HM.out; omega)
        have HM1 := hid hM1
        have W3M : Hid (IntKind.u64.wrap ((m : Int) + 1) = ((m + 1 : Nat) : Int)) := hid (by have h := w3; rw [HM.out.1, hM1] at h; exact h)
        have HL : Hid (m + 1 < 18446744073709551616 ∧ m < 18446744073709551616) := hid (by have := HM.out; omega)
        clear hM1
        clear tail hmb
        go_wp2_with fail
        rw [HM.out.1, HM1.out]
        refine (compare_c m (m + 1) HL.out.2 HL.out.1 _).mono ?_
        rintro e w' ⟨rfl, rfl⟩
        rw [HS.out.1, HS.out.2.1]
        go_wp2_with fail
        rw [W3M.out]
        refine (order_c m (m + 1) HL.out.2 HL.out.1 _).mono ?_
        rintro e w' ⟨rfl, rfl⟩
        rw [HS.out.2.2]
        go_wp2
        go_ret
        exact ⟨rfl, hbel⟩
      · have e2 : decide ((9218868437227405311 : Int) ≤ M) = true := by have := HM.out; simp; omega
        clear tail hmb
        go_wp2
        go_ret
        exact ⟨rfl, hbel⟩
    · have e1 : (c != 0) = true := by simpa using hc0
      have hoc := H2.out hc0
      have e3 : (o != c) = false := by simpa using hoc
      clear hc0 hoc
      go_wp2_with fail
      refine (order_c a b ha' hb' _).mono ?_
      rintro e w' ⟨rfl, rfl⟩
      rw [← EO.out]
      by_cases hmb : m < 9218868437227405311
      · have HS := tail hmb
        have e2 : decide ((9218868437227405311 : Int) ≤ M) = false := by have := HM.out; simp; omega
        obtain ⟨M1, hM1⟩ : ∃ M1 : Int, M1 = ((m + 1 : Nat) : Int) := ⟨_, rfl⟩
        have w3 : IntKind.u64.wrap (M + 1) = M1 := (IntWalk.u64_in _ (by have := HM.out; omega)).trans (by have := HM.out; omega)
        have HM1 := hid hM1
        have W3M : Hid (IntKind.u64.wrap ((m : Int) + 1) = ((m + 1 : Nat) : Int)) := hid (by have h := w3; rw [HM.out.1, hM1] at h; exact h)
        have HL : Hid (m + 1 < 18446744073709551616 ∧ m < 18446744073709551616) := hid (by have := HM.out; omega)
        clear hM1
        clear tail hmb
        go_wp2_with fail
        rw [HM.out.1, HM1.out]
        refine (compare_c m (m + 1) HL.out.2 HL.out.1 _).mono ?_
        rintro e w' ⟨rfl, rfl⟩
        rw [HS.out.1, HS.out.2.1]
        go_wp2_with fail
        rw [W3M.out]
        refine (order_c m (m + 1) HL.out.2 HL.out.1 _).mono ?_
        rintro e w' ⟨rfl, rfl⟩
        rw [HS.out.2.2]
        go_wp2
        go_ret
        exact ⟨rfl, hbel⟩
      · have e2 : decide ((9218868437227405311 : Int) ≤ M) = true := by have := HM.out; simp; omega
        clear tail hmb
        go_wp2
        go_ret
        exact ⟨rfl, hbel⟩
end Go.Proofs.YtecafgonofjglaaDoor
