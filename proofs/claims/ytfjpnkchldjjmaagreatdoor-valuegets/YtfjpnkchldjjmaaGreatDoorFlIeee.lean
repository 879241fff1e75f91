/- The model's floats in the words of FlMath: order, rounding of whole numbers, cutting to whole numbers; no program. -/
import Ieee.Arith
import Derived.Test.YtfjpnkchldjjmaaGreatDoorFlMath
import Derived.Test.YtfjpnkchldjjmaaGreatDoorFlText
namespace Go.Proofs.YtfjpnkchldjjmaaGreatDoor
open Ieee
set_option linter.unusedVariables false

/-- The magnitude of a rung in units of the least float. -/
def fv (r : Nat) : Nat := if r < 4503599627370496 then r else (4503599627370496 + r % 4503599627370496) * 2 ^ (r / 4503599627370496 - 1)
theorem fv_step (r : Nat) : fv r < fv (r + 1) := by
  unfold fv
  by_cases h1 : r + 1 < 4503599627370496
  · rw [if_pos h1, if_pos (by omega)]; omega
  · rw [if_neg h1]
    by_cases h2 : r < 4503599627370496
    · rw [if_pos h2]
      have : r + 1 = 4503599627370496 := by omega
      have e : (4503599627370496 + 4503599627370496 % 4503599627370496) * 2 ^ (4503599627370496 / 4503599627370496 - 1) = 4503599627370496 := by decide
      rw [this, e]; omega
    · rw [if_neg h2]
      by_cases h3 : r % 4503599627370496 = 4503599627370495
      · have e1 : (r + 1) % 4503599627370496 = 0 := by omega
        have e2 : (r + 1) / 4503599627370496 - 1 = (r / 4503599627370496 - 1) + 1 := by omega
        rw [h3, e1, e2, Nat.pow_succ]
        have := Nat.pow_pos (n := r / 4503599627370496 - 1) (show 0 < 2 by decide)
        generalize 2 ^ (r / 4503599627370496 - 1) = x at *
        omega
      · have e1 : (r + 1) % 4503599627370496 = r % 4503599627370496 + 1 := by omega
        have e2 : (r + 1) / 4503599627370496 = r / 4503599627370496 := by omega
        rw [e1, e2]
        exact (Nat.mul_lt_mul_right (Nat.pow_pos (by decide))).2 (by omega)
theorem fv_add (r : Nat) : ∀ d, fv r < fv (r + d + 1)
  | 0 => fv_step r
  | d + 1 => Nat.lt_trans (fv_add r d) (fv_step _)
theorem fv_lt {a b : Nat} (h : a < b) : fv a < fv b := by
  have := fv_add a (b - a - 1)
  rwa [show a + (b - a - 1) + 1 = b by omega] at this
theorem fv_cmp (a b : Nat) : compare (fv a) (fv b) = compare a b := by
  rcases Nat.lt_trichotomy a b with h | h | h
  · rw [Nat.compare_eq_lt.2 h, Nat.compare_eq_lt.2 (fv_lt h)]
  · subst h; simp
  · rw [Nat.compare_eq_gt.2 h, Nat.compare_eq_gt.2 (fv_lt h)]

theorem d_sign : double.signWeight = 9223372036854775808 := by decide
theorem d_bin : double.binade = 4503599627370496 := by decide
theorem d_inf : double.infRung = 9218868437227405312 := by decide
theorem d_least : double.leastPlace = -1074 := by decide

/-- A word read: a finite number is sign, magnitude, place; times 2^1074 it is fv of its rung. -/
theorem read_fin {u : Nat} (hu : u < 18446744073709551616) (h : u % 9223372036854775808 < 9218868437227405312) :
    ∃ m p, double.read u = .number (decide (9223372036854775808 ≤ u)) m p ∧ -1074 ≤ p ∧ m * 2 ^ (p + 1074).toNat = fv (u % 9223372036854775808) := by
  unfold Format.read
  simp only [d_sign, d_bin, d_inf, d_least]
  have hs : (u / 9223372036854775808 % 2 == 1) = decide (9223372036854775808 ≤ u) := by
    rw [Bool.eq_iff_iff]; simp; omega
  rw [hs]
  generalize u % 9223372036854775808 = r at *
  by_cases h1 : r < 4503599627370496
  · rw [if_pos h1]
    exact ⟨_, _, rfl, by omega, by unfold fv; rw [if_pos h1]; simp⟩
  · rw [if_neg h1, if_pos h]
    refine ⟨_, _, rfl, by omega, ?_⟩
    unfold fv
    rw [if_neg h1]
    congr 2
    omega
theorem read_inf {u : Nat} (hu : u < 18446744073709551616) (h : u % 9223372036854775808 = 9218868437227405312) :
    double.read u = .infinity (decide (9223372036854775808 ≤ u)) := by
  unfold Format.read
  simp only [d_sign, d_bin, d_inf, d_least, h]
  have hs : (u / 9223372036854775808 % 2 == 1) = decide (9223372036854775808 ≤ u) := by
    rw [Bool.eq_iff_iff]; simp; omega
  rw [hs]
  simp
theorem read_nan {u : Nat} (hu : u < 18446744073709551616) (h : 9218868437227405312 < u % 9223372036854775808) :
    ∃ s f, double.read u = .nan s f := by
  unfold Format.read
  simp only [d_sign, d_bin, d_inf, d_least]
  rw [if_neg (by omega), if_neg (by omega), if_neg (by omega)]
  exact ⟨_, _, rfl⟩

theorem cmpI (a b : Int) : compare a b = if a < b then .lt else if a = b then .eq else .gt := rfl
theorem cmp_scale (a b : Int) {k : Nat} (hk : 0 < k) : compare (a * k) (b * k) = compare a b := by
  have hk' : (0 : Int) < k := by omega
  rw [cmpI, cmpI]
  rcases Int.lt_trichotomy a b with h | h | h
  · rw [if_pos h, if_pos (Int.mul_lt_mul_of_pos_right h hk')]
  · subst h; simp
  · have h2 := Int.mul_lt_mul_of_pos_right h hk'
    rw [if_neg (by omega), if_neg (by omega), if_neg (by omega), if_neg (by omega)]
theorem signed_scale (s : Bool) (m up k : Nat) : signed s m up * (2 ^ k : Nat) = signed s m (up + k) := by
  unfold signed
  have : (m <<< up : Nat) * 2 ^ k = m <<< (up + k) := by rw [Nat.shiftLeft_eq, Nat.shiftLeft_eq, Nat.pow_add, Nat.mul_assoc]
  split
  · rw [← this]; push_cast; rw [Int.neg_mul]
  · rw [← this]; push_cast; rfl
theorem signed_eq (s : Bool) (m up : Nat) : signed s m up = if s then -((m * 2 ^ up : Nat) : Int) else ((m * 2 ^ up : Nat) : Int) := by
  unfold signed; rw [Nat.shiftLeft_eq]

theorem num_sign {a : Nat} (s : Bool) (hs : s = decide (9223372036854775808 ≤ a)) (ha : a < 18446744073709551616) : fNum a = if s then -((a % 9223372036854775808 : Nat) : Int) else ((a % 9223372036854775808 : Nat) : Int) := by
  subst hs
  unfold fNum
  by_cases h : a < 9223372036854775808
  · rw [if_pos h]; simp [show ¬ 9223372036854775808 ≤ a by omega]; omega
  · rw [if_neg h]; simp [show 9223372036854775808 ≤ a by omega]; omega
theorem cmp_signed (s t : Bool) (a b : Nat) : compare (if s then -((fv a : Nat) : Int) else (fv a : Int)) (if t then -((fv b : Nat) : Int) else (fv b : Int)) = compare (if s then -((a : Nat) : Int) else (a : Int)) (if t then -((b : Nat) : Int) else (b : Int)) := by
  have h0 : fv 0 = 0 := by decide
  have l1 : a < b → fv a < fv b := fv_lt
  have l2 : b < a → fv b < fv a := fv_lt
  have z1 : 0 < a → 0 < fv a := fun h => by have := fv_lt h; omega
  have z2 : 0 < b → 0 < fv b := fun h => by have := fv_lt h; omega
  have y1 : a = 0 → fv a = 0 := fun h => by rw [h, h0]
  have y2 : b = 0 → fv b = 0 := fun h => by rw [h, h0]
  have e : a = b → fv a = fv b := fun h => by rw [h]
  generalize fv a = x at *
  generalize fv b = y at *
  rw [cmpI, cmpI]
  have t' : a < b ∨ a = b ∨ b < a := by omega
  have ta : a = 0 ∨ 0 < a := by omega
  have tb : b = 0 ∨ 0 < b := by omega
  clear h0
  have g1 : (x < y ↔ a < b) ∧ (x = y ↔ a = b) ∧ (0 < x ↔ 0 < a) ∧ (0 < y ↔ 0 < b) := by
    refine ⟨⟨fun h => ?_, l1⟩, ⟨fun h => ?_, e⟩, ⟨fun h => ?_, z1⟩, ⟨fun h => ?_, z2⟩⟩
    · rcases t' with t' | t' | t'
      · exact t'
      · have := e t'; omega
      · have := l2 t'; omega
    · rcases t' with t' | t' | t'
      · have := l1 t'; omega
      · exact t'
      · have := l2 t'; omega
    · rcases ta with ta | ta
      · have := y1 ta; omega
      · exact ta
    · rcases tb with tb | tb
      · have := y2 tb; omega
      · exact tb
  clear l1 l2 z1 z2 y1 y2 e t' ta tb
  obtain ⟨g1, g2, g3, g4⟩ := g1
  have c1 : ((if s then -(x : Int) else (x : Int)) < (if t then -(y : Int) else (y : Int))) ↔ ((if s then -(a : Int) else (a : Int)) < (if t then -(b : Int) else (b : Int))) := by
    cases s <;> cases t <;> simp only [Bool.false_eq_true, if_false, if_true] <;> omega
  have c2 : ((if s then -(x : Int) else (x : Int)) = (if t then -(y : Int) else (y : Int))) ↔ ((if s then -(a : Int) else (a : Int)) = (if t then -(b : Int) else (b : Int))) := by
    cases s <;> cases t <;> simp only [Bool.false_eq_true, if_false, if_true] <;> omega
  simp only [c1, c2]

theorem nan_rung {u : Nat} (hu : u < 18446744073709551616) : fNan u = true ↔ 9218868437227405312 < u % 9223372036854775808 := by
  rw [fNan_iff u hu]; omega
/-- How the model's floats stand: by the numbers that they are. -/
theorem f_order {a b : Nat} (ha : a < 18446744073709551616) (hb : b < 18446744073709551616) :
    double.order a b = if fNan a || fNan b then none else some (compare (fNum a) (fNum b)) := by
  unfold Format.order
  have na := nan_rung ha
  have nb := nan_rung hb
  by_cases h1 : 9218868437227405312 < a % 9223372036854775808
  · obtain ⟨s, f, e⟩ := read_nan ha h1
    rw [e, na.2 h1]; rfl
  · have fa : fNan a = false := by rw [← Bool.not_eq_true, na]; exact h1
    by_cases h2 : 9218868437227405312 < b % 9223372036854775808
    · obtain ⟨s, f, e⟩ := read_nan hb h2
      rw [e, nb.2 h2, Bool.or_true]
      cases double.read a <;> rfl
    · have fb : fNan b = false := by rw [← Bool.not_eq_true, nb]; exact h2
      rw [fa, fb, Bool.or_self, if_neg (by decide)]
      have ea := num_sign _ rfl ha
      have eb := num_sign _ rfl hb
      by_cases h3 : a % 9223372036854775808 = 9218868437227405312
      · rw [read_inf ha h3]
        by_cases h4 : b % 9223372036854775808 = 9218868437227405312
        · rw [read_inf hb h4, ea, eb, h3, h4]
          unfold Datum.order
          cases decide (9223372036854775808 ≤ a) <;> cases decide (9223372036854775808 ≤ b) <;> rfl
        · obtain ⟨m, p, e, _, _⟩ := read_fin hb (by omega)
          rw [e, ea, eb, h3]
          unfold Datum.order
          have : b % 9223372036854775808 < 9218868437227405312 := by omega
          generalize b % 9223372036854775808 = y at *
          congr 1
          rw [cmpI]
          cases decide (9223372036854775808 ≤ a) <;> cases decide (9223372036854775808 ≤ b) <;> simp only [Bool.false_eq_true, if_false, if_true] <;> (repeat' split) <;> first | rfl | omega
      · obtain ⟨m, p, e, hp, hv⟩ := read_fin ha (by omega)
        by_cases h4 : b % 9223372036854775808 = 9218868437227405312
        · rw [e, read_inf hb h4, ea, eb, h4]
          unfold Datum.order
          have : a % 9223372036854775808 < 9218868437227405312 := by omega
          generalize a % 9223372036854775808 = y at *
          congr 1
          rw [cmpI]
          cases decide (9223372036854775808 ≤ a) <;> cases decide (9223372036854775808 ≤ b) <;> simp only [Bool.false_eq_true, if_false, if_true] <;> (repeat' split) <;> first | rfl | omega
        · obtain ⟨n, q, e2, hq, hw⟩ := read_fin hb (by omega)
          rw [e, e2, ea, eb, ← cmp_signed]
          unfold Datum.order
          simp only
          congr 1
          rw [← cmp_scale _ _ (Nat.pow_pos (n := (min p q + 1074).toNat) (show 0 < 2 by decide)), signed_scale, signed_scale,
            show (p - min p q).toNat + (min p q + 1074).toNat = (p + 1074).toNat by omega,
            show (q - min p q).toNat + (min p q + 1074).toNat = (q + 1074).toNat by omega, signed_eq, signed_eq, hv, hw]

theorem cut_zero (s : Bool) (n d : Nat) : Toward.zero.cut s n d = n / 2 ^ d := by
  unfold Toward.cut
  simp only [Bool.toNat_false, Nat.add_zero, Nat.shiftLeft_eq, Nat.one_mul]
  rcases Nat.le_total d (n.log2 + 2) with h | h
  · rw [Nat.min_eq_left h]
  · rw [Nat.min_eq_right h]
    have h1 : n < 2 ^ (n.log2 + 1) := Nat.lt_log2_self
    have h2 : 2 ^ (n.log2 + 1) ≤ 2 ^ (n.log2 + 2) := Nat.pow_le_pow_right (by decide) (by omega)
    have h3 : 2 ^ (n.log2 + 2) ≤ 2 ^ d := Nat.pow_le_pow_right (by decide) h
    rw [Nat.div_eq_of_lt (by omega), Nat.div_eq_of_lt (by omega)]

/-- A whole number as a float of the model is fOfInt of it. -/
theorem f_nearest {n : Int} (h : inRange n = true) : double.write (.number (decide (n < 0)) n.natAbs 0) = fOfInt n := by
  unfold inRange at h
  simp at h
  show double.nearest _ _ _ = _
  unfold Format.nearest fOfInt
  by_cases h0 : n.natAbs = 0
  · have : n = 0 := by omega
    subst this
    rfl
  · rw [if_neg h0]
    have hk : 0 < n.natAbs := by omega
    have hk2 : n.natAbs ≤ 9007199254740992 := by omega
    have hl := log_le53 hk hk2
    have hs := fun h => log_53 hk hk2 h
    have hb := wBits_pos hk
    have hm : n.natAbs.log2 ≤ 52 → wMant n.natAbs = n.natAbs * 2 ^ (52 - n.natAbs.log2) := fun h => by unfold wMant; rw [if_pos h]
    have hm3 : n.natAbs.log2 = 53 → wMant n.natAbs = 4503599627370496 := fun h => by unfold wMant; rw [if_neg (by omega)]
    have lt := wMant_lt hk
    rw [hb]
    generalize hx : n.natAbs.log2 = L at *
    have f52 : (double.fractionBits : Int) = 52 := rfl
    simp only [d_least, f52]
    have e1 : max ((0 : Int) + (L : Int) - 52) (-1074) = (L : Int) - 52 := by omega
    rw [e1]
    have key : Toward.even.cut (decide (n < 0)) (n.natAbs <<< (0 - ((L : Int) - 52)).toNat) ((L : Int) - 52 - 0).toNat = wMant n.natAbs := by
      by_cases h52 : L ≤ 52
      · rw [show ((L : Int) - 52 - 0).toNat = 0 by omega, show (0 - ((L : Int) - 52)).toNat = 52 - L by omega, hm h52, Nat.shiftLeft_eq]
        unfold Toward.cut
        simp [Nat.mod_one]
      · have h53 : L = 53 := by omega
        rw [hm3 h53, hs h53, h53]
        cases decide (n < 0) <;> decide
    rw [key]
    have e2 : (((L : Int) - 52) - -1074).toNat = 1022 + L := by omega
    rw [e2, d_bin, d_inf]
    have e3 : min ((1022 + L) * 4503599627370496 + wMant n.natAbs) 9218868437227405312 = (1022 + L) * 4503599627370496 + wMant n.natAbs := by
      have h9 : (1022 + L) * 4503599627370496 ≤ 1075 * 4503599627370496 := Nat.mul_le_mul_right _ (by omega)
      exact Nat.min_eq_left (Nat.le_trans (Nat.add_le_add h9 (Nat.le_of_lt lt)) (by decide))
    rw [e3]
    clear e3 e2 key e1 hm hm3 hs
    generalize (1022 + L) * 4503599627370496 + wMant n.natAbs = y at *
    show (if decide (n < 0) = true then double.signWeight + y else y) = _
    rw [d_sign]
    by_cases hn : n < 0
    · rw [decide_eq_true hn, if_pos rfl, if_pos hn]
    · rw [decide_eq_false hn, if_neg (by decide), if_neg hn]

/-- What the model cuts a float to: of a float that is a whole number, that one. -/
theorem f_toInt {n : Int} (h : inRange n = true) : (double.read (fOfInt n)).toInt .zero = some n := by
  obtain ⟨hlt, hnan⟩ := fOfInt_lt h
  have hr := h
  unfold inRange at h
  simp at h
  by_cases h0 : n = 0
  · subst h0; decide
  have hk : 0 < n.natAbs := by omega
  have hk2 : n.natAbs ≤ 9007199254740992 := by omega
  have hl := log_le53 hk hk2
  have hb := wBits_pos hk
  have m1 := wMant_ge hk
  have m2 := wMant_lt hk
  have hu : fOfInt n % 9223372036854775808 = (1022 + n.natAbs.log2) * 4503599627370496 + wMant n.natAbs := by
    unfold fOfInt; rw [hb]; split <;> omega
  have hsg : (fOfInt n / 9223372036854775808 % 2 == 1) = decide (n < 0) := by
    rw [Bool.eq_iff_iff]; simp; unfold fOfInt; rw [hb]; split <;> omega
  unfold Format.read
  simp only [d_sign, d_bin, d_inf, d_least, hsg, hu]
  rw [if_neg (by omega), if_pos (by omega)]
  have e1 : ((1022 + n.natAbs.log2) * 4503599627370496 + wMant n.natAbs) % 4503599627370496 = wMant n.natAbs - 4503599627370496 := by omega
  have e2 : ((1022 + n.natAbs.log2) * 4503599627370496 + wMant n.natAbs) / 4503599627370496 - 1 = 1022 + n.natAbs.log2 := by omega
  rw [e1, e2, show 4503599627370496 + (wMant n.natAbs - 4503599627370496) = wMant n.natAbs by omega]
  unfold Datum.toInt Datum.integral
  simp only [cut_zero, signed_eq, Nat.shiftLeft_eq]
  have key : wMant n.natAbs * 2 ^ (-1074 + ((1022 + n.natAbs.log2 : Nat) : Int)).toNat / 2 ^ (-(-1074 + ((1022 + n.natAbs.log2 : Nat) : Int))).toNat = n.natAbs := by
    by_cases h52 : n.natAbs.log2 ≤ 52
    · rw [show (-1074 + ((1022 + n.natAbs.log2 : Nat) : Int)).toNat = 0 by omega, show (-(-1074 + ((1022 + n.natAbs.log2 : Nat) : Int))).toNat = 52 - n.natAbs.log2 by omega]
      unfold wMant
      rw [if_pos h52, Nat.pow_zero, Nat.mul_one, Nat.mul_div_cancel _ (Nat.pow_pos (by decide))]
    · have h53 : n.natAbs.log2 = 53 := by omega
      have hs := log_53 hk hk2 h53
      unfold wMant
      rw [if_neg h52, h53, hs]
      decide
  rw [key]
  simp only [Nat.pow_zero, Nat.mul_one]
  congr 1
  by_cases hn : n < 0
  · simp [hn]; omega
  · simp [hn]; omega
/-- Cut to a whole number, a float from -2^53 to 2^53 is one from -2^53 to 2^53. -/
theorem f_cut {u : Nat} (hu : u < 18446744073709551616) (h : u % 9223372036854775808 ≤ 4845873199050653696) : ∃ n, (double.read u).toInt .zero = some n ∧ inRange n = true := by
  obtain ⟨m, p, e, hp, hv⟩ := read_fin hu (by omega)
  have hle : fv (u % 9223372036854775808) ≤ fv 4845873199050653696 := by
    rcases Nat.lt_or_ge (u % 9223372036854775808) 4845873199050653696 with h1 | h1
    · exact Nat.le_of_lt (fv_lt h1)
    · rw [show u % 9223372036854775808 = 4845873199050653696 by omega]; exact Nat.le_refl _
  rw [← hv] at hle
  have hf : ∀ K, K = 1074 → fv 4845873199050653696 = 9007199254740992 * 2 ^ K := by
    intro K hK
    unfold fv
    rw [if_neg (by decide), show 4845873199050653696 / 4503599627370496 - 1 = K + 1 by omega, show 4503599627370496 + 4845873199050653696 % 4503599627370496 = 4503599627370496 by decide, Nat.pow_succ]
    omega
  obtain ⟨K, hK⟩ : ∃ K, K = 1074 := ⟨_, rfl⟩
  rw [hf K hK] at hle
  clear hf
  rw [e]
  unfold Datum.toInt Datum.integral
  simp only [cut_zero, signed_eq, Nat.shiftLeft_eq]
  have key : m * 2 ^ p.toNat / 2 ^ (-p).toNat ≤ 9007199254740992 := by
    by_cases h0 : 0 ≤ p
    · rw [show (-p).toNat = 0 by omega, Nat.pow_zero, Nat.div_one]
      rw [show (p + 1074).toNat = p.toNat + K by omega, Nat.pow_add, ← Nat.mul_assoc] at hle
      exact Nat.le_of_mul_le_mul_right hle (Nat.pow_pos (by decide))
    · rw [show p.toNat = 0 by omega, Nat.pow_zero, Nat.mul_one]
      apply Nat.div_le_of_le_mul
      have e1 : (2 : Nat) ^ K = 2 ^ (-p).toNat * 2 ^ (p + 1074).toNat := by rw [← Nat.pow_add]; congr 1; omega
      rw [e1, ← Nat.mul_assoc] at hle
      have := Nat.le_of_mul_le_mul_right hle (Nat.pow_pos (by decide))
      rw [Nat.mul_comm]
      exact this
  generalize m * 2 ^ p.toNat / 2 ^ (-p).toNat = x at *
  refine ⟨_, rfl, ?_⟩
  unfold inRange
  simp only [Nat.pow_zero, Nat.mul_one]
  split <;> simp <;> omega
end Go.Proofs.YtfjpnkchldjjmaaGreatDoor
