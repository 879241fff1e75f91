/- Floats by their bits, plainly: parts, order, comparison, whole numbers; no program. -/
namespace Go.Proofs.YtfjpnkchldjjmaaGreatDoor

def P52 : Nat := 4503599627370496
def P63 : Nat := 9223372036854775808
def P64 : Nat := 18446744073709551616
def fS (u : Nat) : Nat := u / 9223372036854775808
def fE (u : Nat) : Nat := u / 4503599627370496 % 2048
def fM (u : Nat) : Nat := u % 4503599627370496
def fNan (u : Nat) : Bool := decide (fE u = 2047) && decide (0 < fM u)
def fCanon (u : Nat) : Nat := if fNan u then 9221120237041090560 else u
def fMag (u : Nat) : Nat := u % 9223372036854775808
/-- A float as a number, and its place in the order of all. -/
def fNum (u : Nat) : Int := if u < 9223372036854775808 then (u : Int) else 9223372036854775808 - (u : Int)
def fKey (u : Nat) : Int := if fNan u then 9223372036854775808 else if u < 9223372036854775808 then (u : Int) else 9223372036854775807 - (u : Int)
def sgn (x : Int) : Int := if x < 0 then -1 else if x = 0 then 0 else 1
/-- How two floats compare (nothing, if one is no number); how they stand in the order. -/
def fCmp (a b : Nat) : Int := if fNan a || fNan b then 0 else sgn (fNum a - fNum b)
def fCmpOk (a b : Nat) : Bool := !(fNan a || fNan b)
def fOrd (a b : Nat) : Int := sgn (fKey a - fKey b)

theorem fNan_iff (u : Nat) (hu : u < 18446744073709551616) : fNan u = true ↔ (9218868437227405312 < u ∧ u < 9223372036854775808) ∨ 18442240474082181120 < u := by
  unfold fNan fE fM
  simp only [Bool.and_eq_true, decide_eq_true_eq]
  omega
theorem fNan_false (u : Nat) (hu : u < 18446744073709551616) : fNan u = false ↔ u ≤ 9218868437227405312 ∨ (9223372036854775808 ≤ u ∧ u ≤ 18442240474082181120) := by
  rw [← Bool.not_eq_true, fNan_iff u hu]
  omega
theorem fCanon_lt {u : Nat} (hu : u < 18446744073709551616) : fCanon u < 18446744073709551616 := by unfold fCanon; split <;> omega
theorem fCanon_key (u : Nat) : fKey (fCanon u) = fKey u := by
  unfold fCanon
  split
  · rename_i h
    have h1 : fNan 9221120237041090560 = true := by decide
    unfold fKey
    rw [if_pos h1, if_pos h]
  · rfl
theorem fKey_inj {a b : Nat} (ha : a < 18446744073709551616) (hb : b < 18446744073709551616) : fKey a = fKey b ↔ fCanon a = fCanon b := by
  unfold fKey fCanon
  have h1 := fNan_false a ha
  have h2 := fNan_false b hb
  have h3 := fNan_iff a ha
  have h4 := fNan_iff b hb
  cases hna : fNan a <;> cases hnb : fNan b <;> simp only [hna, hnb, Bool.false_eq_true, if_false, if_true, true_iff, false_iff] at * <;> (repeat' split) <;> omega
theorem sgn_neg (x : Int) : sgn (-x) = - sgn x := by unfold sgn; (repeat' split) <;> omega
theorem sgn_zero {x : Int} : sgn x = 0 ↔ x = 0 := by unfold sgn; (repeat' split) <;> omega
theorem sgn_le {x : Int} : sgn x ≤ 0 ↔ x ≤ 0 := by unfold sgn; (repeat' split) <;> omega
theorem sgn_cases (x : Int) : sgn x = -1 ∨ sgn x = 0 ∨ sgn x = 1 := by unfold sgn; (repeat' split) <;> omega
theorem fOrd_turn (a b : Nat) : fOrd a b = - fOrd b a := by unfold fOrd; rw [← sgn_neg]; congr 1; omega
theorem fOrd_zero {a b : Nat} (ha : a < 18446744073709551616) (hb : b < 18446744073709551616) : fOrd a b = 0 ↔ fCanon a = fCanon b := by
  unfold fOrd; rw [sgn_zero, ← fKey_inj ha hb]; omega
theorem fOrd_trans {a b c : Nat} (h1 : fOrd a b ≤ 0) (h2 : fOrd b c ≤ 0) : fOrd a c ≤ 0 := by
  unfold fOrd at *; rw [sgn_le] at *; omega
theorem fOrd_canon (a b : Nat) : fOrd (fCanon a) (fCanon b) = fOrd a b := by unfold fOrd; rw [fCanon_key, fCanon_key]

/-- The sign turned. -/
def fFlip (u : Nat) : Nat := if u < 9223372036854775808 then u + 9223372036854775808 else u - 9223372036854775808
theorem fFlip_lt {u : Nat} (hu : u < 18446744073709551616) : fFlip u < 18446744073709551616 := by unfold fFlip; split <;> omega
theorem fFlip_nan {u : Nat} (hu : u < 18446744073709551616) : fNan (fFlip u) = fNan u := by
  have h1 := fNan_iff u hu
  have h2 := fNan_iff (fFlip u) (fFlip_lt hu)
  rw [Bool.eq_iff_iff, h1, h2]
  unfold fFlip
  split <;> omega
theorem fFlip_num {u : Nat} (hu : u < 18446744073709551616) : fNum (fFlip u) = - fNum u := by unfold fFlip fNum; (repeat' split) <;> omega
theorem fFlip_key {u : Nat} (hu : u < 18446744073709551616) (hn : fNan u = false) : fKey (fFlip u) = -1 - fKey u := by
  have h1 := fFlip_nan hu
  unfold fKey
  rw [h1, hn]
  simp only [Bool.false_eq_true, if_false]
  unfold fFlip
  (repeat' split) <;> omega
theorem fCmp_flip {a b : Nat} (ha : a < 18446744073709551616) (hb : b < 18446744073709551616) : fCmp a b = - fCmp (fFlip a) (fFlip b) := by
  unfold fCmp
  rw [fFlip_nan ha, fFlip_nan hb, fFlip_num ha, fFlip_num hb]
  split
  · rfl
  · rw [← sgn_neg]; congr 1; omega
theorem fCmpOk_flip {a b : Nat} (ha : a < 18446744073709551616) (hb : b < 18446744073709551616) : fCmpOk (fFlip a) (fFlip b) = fCmpOk a b := by
  unfold fCmpOk; rw [fFlip_nan ha, fFlip_nan hb]
theorem fOrd_flip {a b : Nat} (ha : a < 18446744073709551616) (hb : b < 18446744073709551616) (h : fCmpOk a b = true) : fOrd a b = - fOrd (fFlip a) (fFlip b) := by
  unfold fCmpOk at h
  simp at h
  unfold fOrd
  rw [fFlip_key ha h.1, fFlip_key hb h.2, ← sgn_neg]
  congr 1; omega
theorem fOrd_cmp {a b : Nat} (ha : a < 18446744073709551616) (hb : b < 18446744073709551616) (h : fCmpOk a b = true) (hc : fCmp a b ≠ 0) : fOrd a b = fCmp a b := by
  unfold fCmpOk at h
  simp at h
  obtain ⟨h1, h2⟩ := h
  unfold fCmp at *
  simp only [h1, h2, Bool.or_self, Bool.false_eq_true, if_false] at hc ⊢
  unfold fOrd fKey
  simp only [h1, h2, Bool.false_eq_true, if_false]
  have h3 := (fNan_false a ha).1 h1
  have h4 := (fNan_false b hb).1 h2
  clear h1 h2
  unfold sgn fNum at *
  by_cases c1 : a < 9223372036854775808 <;> by_cases c2 : b < 9223372036854775808 <;> simp only [c1, c2, if_true, if_false] at hc ⊢ <;> (repeat' split) <;> (repeat' split at hc) <;> omega
theorem fStep {m : Nat} (h : m < 9218868437227405311) : fCmpOk m (m + 1) = true ∧ fCmp m (m + 1) = -1 ∧ fOrd m (m + 1) = -1 := by
  have h1 := (fNan_false m (by omega)).2 (by omega)
  have h2 := (fNan_false (m + 1) (by omega)).2 (by omega)
  unfold fCmpOk fCmp fOrd fKey
  simp only [h1, h2, Bool.or_self, Bool.not_false, Bool.false_eq_true, if_false, true_and]
  unfold sgn fNum
  constructor <;> (repeat' split) <;> omega

/-- The power of two that a natural number has: 2^L ≤ k < 2^(L+1). -/
theorem log_spec {k : Nat} (h : 0 < k) : 2 ^ k.log2 ≤ k ∧ k < 2 ^ (k.log2 + 1) := ⟨Nat.log2_self_le (by omega), Nat.lt_log2_self⟩
theorem log_unique {k L : Nat} (h1 : 2 ^ L ≤ k) (h2 : k < 2 ^ (L + 1)) : k.log2 = L := by
  have h0 : 0 < k := Nat.lt_of_lt_of_le (Nat.pow_pos (by omega)) h1
  obtain ⟨h3, h4⟩ := log_spec h0
  have h5 : k.log2 < L + 1 := (Nat.pow_lt_pow_iff_right (by omega)).1 (Nat.lt_of_le_of_lt h3 h2)
  have h6 : L < k.log2 + 1 := (Nat.pow_lt_pow_iff_right (by omega)).1 (Nat.lt_of_le_of_lt h1 h4)
  omega
theorem log_le53 {k : Nat} (h0 : 0 < k) (h : k ≤ 9007199254740992) : k.log2 ≤ 53 := by
  obtain ⟨h3, _⟩ := log_spec h0
  have : 2 ^ k.log2 < 2 ^ 54 := by omega
  have := (Nat.pow_lt_pow_iff_right (a := 2) (by omega)).1 this
  omega
theorem log_53 {k : Nat} (h0 : 0 < k) (h : k ≤ 9007199254740992) (h2 : k.log2 = 53) : k = 9007199254740992 := by
  obtain ⟨h3, _⟩ := log_spec h0
  rw [h2] at h3
  omega

/-- The fraction of a whole number k > 0 with its leading bit: from 2^52 on, below 2^53. -/
def wMant (k : Nat) : Nat := if k.log2 ≤ 52 then k * 2 ^ (52 - k.log2) else 4503599627370496
theorem pow_split {L : Nat} (h : L ≤ 52) : 2 ^ L * 2 ^ (52 - L) = 4503599627370496 := by
  rw [← Nat.pow_add, Nat.add_sub_cancel' h]
theorem wMant_ge {k : Nat} (h0 : 0 < k) : 4503599627370496 ≤ wMant k := by
  unfold wMant
  split
  · rename_i h
    rw [← pow_split h]
    exact Nat.mul_le_mul_right _ (log_spec h0).1
  · omega
theorem wMant_lt {k : Nat} (h0 : 0 < k) : wMant k < 9007199254740992 := by
  unfold wMant
  split
  · rename_i h
    have h1 := (log_spec h0).2
    have h2 : k * 2 ^ (52 - k.log2) < 2 ^ (k.log2 + 1) * 2 ^ (52 - k.log2) := (Nat.mul_lt_mul_right (Nat.pow_pos (by omega))).2 h1
    have h3 : 2 ^ (k.log2 + 1) * 2 ^ (52 - k.log2) = 9007199254740992 := by rw [Nat.pow_succ, Nat.mul_comm (2 ^ k.log2), Nat.mul_assoc, pow_split h]
    omega
  · omega
/-- The bits, without the sign, of the float that is the whole number k. -/
def wBits (k : Nat) : Nat := if k = 0 then 0 else (1022 + k.log2) * 4503599627370496 + wMant k
theorem wBits_pos {k : Nat} (h0 : 0 < k) : wBits k = (1022 + k.log2) * 4503599627370496 + wMant k := by unfold wBits; rw [if_neg (by omega)]
theorem wBits_mono {a b : Nat} (h : a < b) (hb : b ≤ 9007199254740992) : wBits a < wBits b := by
  by_cases ha0 : a = 0
  · subst ha0
    rw [wBits_pos (k := b) (by omega)]
    unfold wBits
    rw [if_pos rfl]
    have := wMant_ge (k := b) (by omega)
    omega
  · have h1 : 0 < a := by omega
    rw [wBits_pos h1, wBits_pos (k := b) (by omega)]
    have hl : a.log2 ≤ b.log2 := by
      have h3 := (log_spec h1).1
      have h4 := (log_spec (k := b) (by omega)).2
      have := (Nat.pow_lt_pow_iff_right (a := 2) (by omega)).1 (show 2 ^ a.log2 < 2 ^ (b.log2 + 1) by omega)
      omega
    have m1 := wMant_lt h1
    have m2 := wMant_ge (k := b) (by omega)
    rcases Nat.lt_or_ge a.log2 b.log2 with hlt | hge
    · have : (1022 + a.log2 + 1) * 4503599627370496 ≤ (1022 + b.log2) * 4503599627370496 := Nat.mul_le_mul_right _ (by omega)
      rw [Nat.add_mul (1022 + a.log2)] at this
      omega
    · have he : a.log2 = b.log2 := by omega
      rw [he]
      have : wMant a < wMant b := by
        unfold wMant
        rw [he]
        split
        · exact (Nat.mul_lt_mul_right (Nat.pow_pos (by omega))).2 h
        · rename_i h53
          have h5 := log_le53 (k := b) (by omega) hb
          have h6 := log_53 (k := a) h1 (by omega) (by omega)
          omega
      omega
theorem wBits_lt {k : Nat} (hk : k ≤ 9007199254740992) : wBits k ≤ 4845873199050653696 := by
  have h1 : wBits 9007199254740992 = 4845873199050653696 := by
    have hl : (9007199254740992 : Nat).log2 = 53 := log_unique (by omega) (by omega)
    rw [wBits_pos (by omega)]
    unfold wMant
    rw [hl]
    rfl
  rcases Nat.lt_or_ge k 9007199254740992 with h | h
  · have := wBits_mono h (Nat.le_refl _); omega
  · have : k = 9007199254740992 := by omega
    subst this; omega
/-- The float that a number is. -/
def fOfInt (n : Int) : Nat := if n < 0 then 9223372036854775808 + wBits n.natAbs else wBits n.natAbs
def inRange (n : Int) : Bool := decide (-9007199254740992 ≤ n) && decide (n ≤ 9007199254740992)
theorem fOfInt_num {n : Int} (h : inRange n = true) : fNum (fOfInt n) = if n < 0 then -(wBits n.natAbs : Int) else (wBits n.natAbs : Int) := by
  unfold inRange at h
  simp at h
  have := wBits_lt (k := n.natAbs) (by omega)
  unfold fNum fOfInt
  by_cases hn : n < 0
  · simp only [hn, if_true]; split <;> omega
  · simp only [hn, if_false]; split <;> omega
theorem fOfInt_lt {n : Int} (h : inRange n = true) : fOfInt n < 18446744073709551616 ∧ fNan (fOfInt n) = false := by
  unfold inRange at h
  simp at h
  have := wBits_lt (k := n.natAbs) (by omega)
  have h1 : fOfInt n < 18446744073709551616 := by unfold fOfInt; split <;> omega
  exact ⟨h1, (fNan_false _ h1).2 (by unfold fOfInt; split <;> omega)⟩
theorem fOfInt_mono {a b : Int} (ha : inRange a = true) (hb : inRange b = true) (h : a < b) : fNum (fOfInt a) < fNum (fOfInt b) := by
  rw [fOfInt_num ha, fOfInt_num hb]
  unfold inRange at ha hb
  simp at ha hb
  by_cases h1 : a < 0 <;> by_cases h2 : b < 0 <;> simp only [h1, h2, if_true, if_false]
  · have := wBits_mono (a := b.natAbs) (b := a.natAbs) (by omega) (by omega); omega
  · have := wBits_mono (a := 0) (b := a.natAbs) (by omega) (by omega); omega
  · omega
  · have := wBits_mono (a := a.natAbs) (b := b.natAbs) (by omega) (by omega); omega
theorem fOfInt_cmp {a b : Int} (ha : inRange a = true) (hb : inRange b = true) : fCmpOk (fOfInt a) (fOfInt b) = true ∧ fCmp (fOfInt a) (fOfInt b) = sgn (a - b) := by
  have h1 := (fOfInt_lt ha).2
  have h2 := (fOfInt_lt hb).2
  unfold fCmpOk fCmp
  simp only [h1, h2, Bool.or_self, Bool.not_false, Bool.false_eq_true, if_false, true_and]
  rcases Int.lt_trichotomy a b with h | h | h
  · have := fOfInt_mono ha hb h
    unfold sgn; (repeat' split) <;> omega
  · subst h; simp
  · have := fOfInt_mono hb ha h
    unfold sgn; (repeat' split) <;> omega
theorem fOfInt_inj {a b : Int} (ha : inRange a = true) (hb : inRange b = true) : fOfInt a = fOfInt b ↔ a = b := by
  constructor
  · intro h
    rcases Int.lt_trichotomy a b with h1 | h1 | h1
    · have := fOfInt_mono ha hb h1; rw [h] at this; omega
    · exact h1
    · have := fOfInt_mono hb ha h1; rw [h] at this; omega
  · intro h; rw [h]
end Go.Proofs.YtfjpnkchldjjmaaGreatDoor
