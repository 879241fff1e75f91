/- Whole floats and the texts of floats, plainly; no program. -/
import Derived.Test.YtfjpnkchldjjmaaGreatDoorFlMath
namespace Go.Proofs.YtfjpnkchldjjmaaGreatDoor

/-- The whole number that a float is, if it is one from -2^53 to 2^53. -/
def fWhole (u : Nat) : Option Int :=
  if fE u = 0 ∧ fM u = 0 then some 0
  else if fE u < 1023 ∨ 1076 < fE u ∨ (fE u = 1076 ∧ 0 < fM u) then none
  else if fE u = 1076 then some (if u < 9223372036854775808 then 9007199254740992 else -9007199254740992)
  else if (fM u + 4503599627370496) % 2 ^ (1075 - fE u) = 0 then
    some (if u < 9223372036854775808 then (((fM u + 4503599627370496) / 2 ^ (1075 - fE u) : Nat) : Int) else -(((fM u + 4503599627370496) / 2 ^ (1075 - fE u) : Nat) : Int))
  else none

theorem parts_of (u : Nat) (hu : u < 18446744073709551616) : u = (if u < 9223372036854775808 then 0 else 9223372036854775808) + fE u * 4503599627370496 + fM u ∧ fE u < 2048 ∧ fM u < 4503599627370496 := by
  unfold fE fM
  split <;> omega
theorem parts_mk {s e m : Nat} (hs : s = 0 ∨ s = 9223372036854775808) (he : e < 2048) (hm : m < 4503599627370496) : fE (s + e * 4503599627370496 + m) = e ∧ fM (s + e * 4503599627370496 + m) = m ∧ ((s + e * 4503599627370496 + m < 9223372036854775808) ↔ s = 0) := by
  unfold fE fM
  rcases hs with rfl | rfl <;> omega

/-- A mantissa of a whole number: 2^52 ≤ n < 2^53, n = k * 2^j. -/
theorem mant_back {n k j : Nat} (hj : j ≤ 52) (h1 : 4503599627370496 ≤ n) (h2 : n < 9007199254740992) (h : n = k * 2 ^ j) : k.log2 = 52 - j ∧ wMant k = n := by
  have hp : 2 ^ (52 - j) * 2 ^ j = 4503599627370496 := by rw [← Nat.pow_add, Nat.sub_add_cancel hj]
  have hpos : 0 < 2 ^ j := Nat.pow_pos (by omega)
  have g1 : 2 ^ (52 - j) ≤ k := by
    have : 2 ^ (52 - j) * 2 ^ j ≤ k * 2 ^ j := by rw [hp, ← h]; exact h1
    exact Nat.le_of_mul_le_mul_right this hpos
  have g2 : k < 2 ^ (52 - j + 1) := by
    have : k * 2 ^ j < 2 ^ (52 - j + 1) * 2 ^ j := by rw [Nat.pow_succ, Nat.mul_comm (2 ^ (52 - j)) 2, Nat.mul_assoc, hp, ← h]; omega
    exact Nat.lt_of_mul_lt_mul_right this
  have hl := log_unique g1 g2
  refine ⟨hl, ?_⟩
  unfold wMant
  rw [hl, if_pos (by omega), show 52 - (52 - j) = j by omega]
  exact h.symm

theorem fWhole_some {u : Nat} (hu : u < 18446744073709551616) {n : Int} (h : fWhole u = some n) : inRange n = true ∧ (fOfInt n = u ∨ (u = 9223372036854775808 ∧ n = 0)) := by
  obtain ⟨hp, he, hm⟩ := parts_of u hu
  unfold fWhole at h
  split at h
  · rename_i h0
    injection h with h
    subst h
    refine ⟨rfl, ?_⟩
    have hz : fOfInt 0 = 0 := by decide
    rw [hz]
    rw [h0.1, h0.2] at hp
    split at hp <;> omega
  · split at h
    · cases h
    · rename_i h0 h1
      split at h
      · rename_i h2
        injection h with h
        have hb : wBits 9007199254740992 = 4845873199050653696 := by
          have hl : (9007199254740992 : Nat).log2 = 53 := log_unique (by omega) (by omega)
          rw [wBits_pos (by omega)]; unfold wMant; rw [hl]; rfl
        have hm0 : fM u = 0 := by omega
        rw [h2, hm0] at hp
        subst h
        by_cases hs : u < 9223372036854775808
        · rw [if_pos hs] at hp ⊢
          refine ⟨by decide, .inl ?_⟩
          unfold fOfInt
          rw [if_neg (by omega)]
          show wBits 9007199254740992 = u
          omega
        · rw [if_neg hs] at hp ⊢
          refine ⟨by decide, .inl ?_⟩
          unfold fOfInt
          rw [if_pos (by omega)]
          show 9223372036854775808 + wBits 9007199254740992 = u
          omega
      · split at h
        · rename_i h2 h3
          injection h with h
          obtain ⟨j, hj⟩ : ∃ j, j = 1075 - fE u := ⟨_, rfl⟩
          obtain ⟨N, hN⟩ : ∃ N, N = fM u + 4503599627370496 := ⟨_, rfl⟩
          rw [← hj, ← hN] at h h3
          obtain ⟨k, hk⟩ : ∃ k, k = N / 2 ^ j := ⟨_, rfl⟩
          rw [← hk] at h
          have hkj : N = k * 2 ^ j := by
            have := Nat.div_add_mod N (2 ^ j)
            rw [h3, ← hk, Nat.mul_comm] at this
            omega
          obtain ⟨hl, hw⟩ := mant_back (n := N) (k := k) (j := j) (by omega) (by omega) (by omega) hkj
          have hk0 : 0 < k := by
            rcases Nat.eq_zero_or_pos k with h | h
            · rw [h] at hkj; omega
            · exact h
          have hkle : k ≤ N := by rw [hkj]; exact Nat.le_mul_of_pos_right _ (Nat.pow_pos (by omega))
          have hb : wBits k = fE u * 4503599627370496 + fM u := by
            rw [wBits_pos hk0, hl, hw, hN]
            omega
          by_cases hs : u < 9223372036854775808
          · rw [if_pos hs] at hp h
            subst h
            refine ⟨by unfold inRange; simp; omega, .inl ?_⟩
            unfold fOfInt
            rw [if_neg (by omega), Int.natAbs_natCast, hb]
            omega
          · rw [if_neg hs] at hp h
            subst h
            refine ⟨by unfold inRange; simp; omega, .inl ?_⟩
            unfold fOfInt
            rw [if_pos (by omega), Int.natAbs_neg, Int.natAbs_natCast, hb]
            omega
        · cases h
theorem fWhole_of {n : Int} (h : inRange n = true) : fWhole (fOfInt n) = some n := by
  unfold inRange at h
  simp at h
  by_cases h0 : n = 0
  · subst h0; decide
  · obtain ⟨k, hk⟩ : ∃ k, k = n.natAbs := ⟨_, rfl⟩
    have hk0 : 0 < k := by omega
    have hkle : k ≤ 9007199254740992 := by omega
    have hL := log_le53 hk0 hkle
    have m1 := wMant_ge hk0
    have m2 := wMant_lt hk0
    obtain ⟨s, hs⟩ : ∃ s : Nat, s = if n < 0 then 9223372036854775808 else 0 := ⟨_, rfl⟩
    have hu : fOfInt n = s + (1023 + k.log2) * 4503599627370496 + (wMant k - 4503599627370496) := by
      unfold fOfInt
      rw [← hk, wBits_pos hk0, hs]
      split <;> omega
    have hs2 : s = 0 ∨ s = 9223372036854775808 := by rw [hs]; split <;> simp
    obtain ⟨e1, e2, e3⟩ := parts_mk (s := s) (e := 1023 + k.log2) (m := wMant k - 4503599627370496) hs2 (by omega) (by omega)
    rw [← hu] at e1 e2 e3
    have hneg : (n < 0) ↔ ¬ s = 0 := by rw [hs]; split <;> omega
    unfold fWhole
    rw [e1, e2, if_neg (by omega)]
    by_cases hL53 : k.log2 = 53
    · have hkk := log_53 hk0 hkle hL53
      have hw : wMant k = 4503599627370496 := by unfold wMant; rw [hL53]; rfl
      rw [hL53, hw, if_neg (by omega), if_pos rfl]
      congr 1
      split
      · rename_i hlt
        have := e3.1 hlt
        omega
      · rename_i hlt
        have : ¬ s = 0 := fun h => hlt (e3.2 h)
        have := hneg.2 this
        omega
    · rw [if_neg (by omega), if_neg (by omega)]
      have hj : 1075 - (1023 + k.log2) = 52 - k.log2 := by omega
      have hw : wMant k = k * 2 ^ (52 - k.log2) := by unfold wMant; rw [if_pos (by omega)]
      rw [hj, Nat.sub_add_cancel m1, hw, Nat.mul_mod_left, if_pos rfl, Nat.mul_div_cancel _ (Nat.pow_pos (by omega))]
      congr 1
      split
      · rename_i hlt
        have := e3.1 hlt
        omega
      · rename_i hlt
        have : ¬ s = 0 := fun h => hlt (e3.2 h)
        have := hneg.2 this
        omega

/-- The decimal digits of a natural number. -/
def dig (n : Nat) : List UInt8 := if h : n < 10 then [UInt8.ofNat (48 + n)] else dig (n / 10) ++ [UInt8.ofNat (48 + n % 10)]
termination_by n
decreasing_by omega
theorem dig_small {n : Nat} (h : n < 10) : dig n = [UInt8.ofNat (48 + n)] := by rw [dig, dif_pos h]
theorem dig_big {n : Nat} (h : ¬ n < 10) : dig n = dig (n / 10) ++ [UInt8.ofNat (48 + n % 10)] := by rw [dig, dif_neg h]
/-- The number that digits are. -/
def val (l : List UInt8) : Nat := l.foldl (fun a c => 10 * a + (c.toNat - 48)) 0
theorem val_snoc (l : List UInt8) (c : UInt8) : val (l ++ [c]) = 10 * val l + (c.toNat - 48) := by simp [val]
theorem dig_char (n : Nat) (h : n < 10) : (UInt8.ofNat (48 + n)).toNat = 48 + n := by simp; omega
theorem val_dig : ∀ (B n : Nat), n ≤ B → val (dig n) = n := by
  intro B
  induction B with
  | zero => intro n h; rw [dig_small (by omega)]; have : n = 0 := by omega
            subst this; decide
  | succ B ih =>
    intro n h
    by_cases hs : n < 10
    · rw [dig_small hs]
      have := val_snoc [] (UInt8.ofNat (48 + n))
      rw [List.nil_append, dig_char n hs] at this
      rw [this]
      simp [val]
    · rw [dig_big hs, val_snoc, ih (n / 10) (by omega), dig_char _ (by omega)]
      omega
theorem dig_inj {a b : Nat} (h : dig a = dig b) : a = b := by rw [← val_dig a a (Nat.le_refl _), h, val_dig b b (Nat.le_refl _)]
theorem dig_all : ∀ (B n : Nat), n ≤ B → ∀ c ∈ dig n, 48 ≤ c.toNat ∧ c.toNat ≤ 57 := by
  intro B
  induction B with
  | zero => intro n h c hc; rw [dig_small (by omega)] at hc; simp only [List.mem_singleton] at hc; subst hc; rw [dig_char _ (by omega)]; omega
  | succ B ih =>
    intro n h c hc
    by_cases hs : n < 10
    · rw [dig_small hs] at hc; simp only [List.mem_singleton] at hc; subst hc; rw [dig_char n hs]; omega
    · rw [dig_big hs, List.mem_append] at hc
      rcases hc with hc | hc
      · exact ih (n / 10) (by omega) c hc
      · simp only [List.mem_singleton] at hc; subst hc; rw [dig_char _ (by omega)]; omega
theorem dig_ne (n : Nat) : dig n ≠ [] := by
  by_cases hs : n < 10
  · rw [dig_small hs]; simp
  · rw [dig_big hs]; simp
theorem dig_len : ∀ (k n : Nat), n < 10 ^ (k + 1) → (dig n).length ≤ k + 1 := by
  intro k
  induction k with
  | zero => intro n h; rw [dig_small (by omega)]; simp
  | succ k ih =>
    intro n h
    by_cases hs : n < 10
    · rw [dig_small hs]; simp
    · rw [dig_big hs, List.length_append]
      have := ih (n / 10) (by rw [Nat.pow_succ] at h; omega)
      simp; omega
theorem dig_head0 : ∀ (B n : Nat), n ≤ B → (dig n).head? = some 48 → n = 0 := by
  intro B
  induction B with
  | zero => intro n h _; omega
  | succ B ih =>
    intro n h hh
    by_cases hs : n < 10
    · rw [dig_small hs] at hh
      simp only [List.head?_cons, Option.some.injEq] at hh
      have := congrArg UInt8.toNat hh
      rw [dig_char n hs] at this
      simp at this
      omega
    · rw [dig_big hs] at hh
      have hne := dig_ne (n / 10)
      rw [List.head?_append] at hh
      cases hd : (dig (n / 10)).head? with
      | none => exact absurd (List.head?_eq_none_iff.1 hd) hne
      | some c => rw [hd] at hh; simp at hh; subst hh; exact absurd (ih (n / 10) (by omega) hd) (by omega)

/-- A whole number's text. -/
def digI (n : Int) : List UInt8 := if n < 0 then 45 :: dig n.natAbs else dig n.natAbs
/-- A hexadecimal digit; sixteen of them. -/
def hexd (d : Nat) : UInt8 := if d < 10 then UInt8.ofNat (48 + d) else UInt8.ofNat (87 + d)
theorem hexd_nat {d : Nat} (h : d < 16) : (hexd d).toNat = if d < 10 then 48 + d else 87 + d := by
  unfold hexd; split <;> simp <;> omega
theorem hexd_inj {a b : Nat} (ha : a < 16) (hb : b < 16) (h : hexd a = hexd b) : a = b := by
  have := congrArg UInt8.toNat h
  rw [hexd_nat ha, hexd_nat hb] at this
  split at this <;> split at this <;> omega
/-- The last k hexadecimal digits of a number. -/
def hexk : Nat → Nat → List UInt8
  | 0, _ => []
  | k + 1, u => hexd (u / 16 ^ k % 16) :: hexk k u
theorem hexk_len : ∀ (k u : Nat), (hexk k u).length = k
  | 0, _ => rfl
  | k + 1, u => by rw [hexk, List.length_cons, hexk_len k u]
theorem hexk_inj : ∀ (k a b : Nat), hexk k a = hexk k b → a % 16 ^ k = b % 16 ^ k
  | 0, a, b, _ => by simp [Nat.mod_one]
  | k + 1, a, b, h => by
    rw [hexk, hexk] at h
    injection h with h1 h2
    have h3 := hexd_inj (Nat.mod_lt _ (by omega)) (Nat.mod_lt _ (by omega)) h1
    have h4 := hexk_inj k a b h2
    rw [Nat.pow_succ, Nat.mod_mul, Nat.mod_mul, h3, h4]

def tNan : List UInt8 := [110, 97, 110]
def tInf : List UInt8 := [105, 110, 102]
def tNinf : List UInt8 := [45, 105, 110, 102]
def tNz : List UInt8 := [45, 48, 46]
/-- The text of a float. -/
def fPrint (u : Nat) : List UInt8 :=
  if fNan u then tNan else if u = 9218868437227405312 then tInf else if u = 18442240474082181120 then tNinf else if u = 9223372036854775808 then tNz
  else match fWhole u with
    | some n => digI n ++ [46]
    | none => 48 :: 120 :: hexk 16 u

theorem digI_inj {a b : Int} (h : digI a = digI b) : a = b := by
  unfold digI at h
  have hd : ∀ (n : Nat) (l : List UInt8), dig n ≠ 45 :: l := by
    intro n l he
    have := dig_all n n (Nat.le_refl _) 45 (by rw [he]; simp)
    simp at this
  by_cases ha : a < 0 <;> by_cases hb : b < 0 <;> simp only [ha, hb, if_true, if_false] at h
  · injection h with _ h; have := dig_inj h; omega
  · exact absurd h.symm (hd _ _)
  · exact absurd h (hd _ _)
  · have := dig_inj h; omega

/-- What the text of a whole number looks like. -/
theorem digI_form (n : Int) : (∃ c l, digI n = c :: l ∧ 48 ≤ c.toNat ∧ c.toNat ≤ 57 ∧ ∀ d ∈ l, 48 ≤ d.toNat ∧ d.toNat ≤ 57) ∨ (∃ c l, digI n = 45 :: c :: l ∧ 48 ≤ c.toNat ∧ c.toNat ≤ 57 ∧ n < 0) := by
  unfold digI
  have h := dig_all n.natAbs n.natAbs (Nat.le_refl _)
  cases hd : dig n.natAbs with
  | nil => exact absurd hd (dig_ne _)
  | cons c l =>
    rw [hd] at h
    have hc := h c (by simp)
    by_cases hn : n < 0
    · right
      rw [if_pos hn]
      exact ⟨c, l, rfl, hc.1, hc.2, hn⟩
    · left
      rw [if_neg hn]
      exact ⟨c, l, rfl, hc.1, hc.2, fun d hd => h d (by simp [hd])⟩

/-- The number that hexadecimal digits are. -/
def hexv (c : UInt8) : Nat := if c.toNat < 58 then c.toNat - 48 else c.toNat - 87
theorem hexv_hexd {d : Nat} (h : d < 16) : hexv (hexd d) = d := by
  unfold hexv; rw [hexd_nat h]; split <;> split at * <;> omega
def hval (l : List UInt8) (a : Nat) : Nat := l.foldl (fun a c => 16 * a + hexv c) a
theorem hval_hexk : ∀ (k u a : Nat), hval (hexk k u) a = a * 16 ^ k + u % 16 ^ k
  | 0, u, a => by simp [hval, hexk, Nat.mod_one]
  | k + 1, u, a => by
    have h := hval_hexk k u (16 * a + hexv (hexd (u / 16 ^ k % 16)))
    have h1 : hval (hexk (k + 1) u) a = hval (hexk k u) (16 * a + hexv (hexd (u / 16 ^ k % 16))) := rfl
    rw [h1, h, hexv_hexd (Nat.mod_lt _ (by omega)), Nat.pow_succ, Nat.mod_mul]
    rw [Nat.add_mul, Nat.mul_comm 16 a, Nat.mul_assoc, Nat.mul_comm 16 (16 ^ k), Nat.add_assoc, Nat.mul_comm (u / 16 ^ k % 16), Nat.add_comm (16 ^ k * _)]

/-- A text as a float, whatever it is: a left inverse of fPrint. -/
def pz (s : List UInt8) : Nat :=
  if s = tNan then 9221120237041090560 else if s = tInf then 9218868437227405312 else if s = tNinf then 18442240474082181120 else if s = tNz then 9223372036854775808
  else match s with
    | 48 :: 120 :: r => hval r 0
    | 45 :: r => fOfInt (-(val r.dropLast : Int))
    | r => fOfInt (val r.dropLast : Int)

theorem whole_text {n : Int} : digI n ++ [46] ≠ tNan ∧ digI n ++ [46] ≠ tInf ∧ digI n ++ [46] ≠ tNinf ∧ digI n ++ [46] ≠ tNz := by
  refine ⟨fun h => ?_, fun h => ?_, fun h => ?_, fun h => ?_⟩
  · have := congrArg List.getLast? h; simp [tNan] at this
  · have := congrArg List.getLast? h; simp [tInf] at this
  · have := congrArg List.getLast? h; simp [tNinf] at this
  · have h1 : digI n ++ [46] = [45, 48] ++ [46] := h
    have h2 := List.append_cancel_right h1
    unfold digI at h2
    by_cases hn : n < 0
    · rw [if_pos hn] at h2
      injection h2 with _ h3
      have := dig_head0 n.natAbs n.natAbs (Nat.le_refl _) (by rw [h3]; rfl)
      omega
    · rw [if_neg hn] at h2
      have := dig_all n.natAbs n.natAbs (Nat.le_refl _) 45 (by rw [h2]; simp)
      simp at this
theorem pz_whole {n : Int} : pz (digI n ++ [46]) = fOfInt n := by
  obtain ⟨h1, h2, h3, h4⟩ := whole_text (n := n)
  unfold pz
  rw [if_neg h1, if_neg h2, if_neg h3, if_neg h4]
  have hv := val_dig n.natAbs n.natAbs (Nat.le_refl _)
  have hall := dig_all n.natAbs n.natAbs (Nat.le_refl _)
  unfold digI
  by_cases hn : n < 0
  · rw [if_pos hn]
    show (match (45 :: dig n.natAbs ++ [46] : List UInt8) with | 48 :: 120 :: r => hval r 0 | 45 :: r => fOfInt (-(val r.dropLast : Int)) | r => fOfInt (val r.dropLast : Int)) = _
    simp only [List.cons_append, List.dropLast_concat, hv]
    congr 1; omega
  · rw [if_neg hn]
    cases hd : dig n.natAbs with
    | nil => exact absurd hd (dig_ne _)
    | cons c l =>
      rw [hd] at hv hall
      have hc := hall c (by simp)
      have e1 : (c :: l ++ [46]).dropLast = c :: l := List.dropLast_concat
      split
      · rename_i r hr
        cases l with
        | nil => simp at hr
        | cons d l =>
          simp at hr
          have := hall d (by simp)
          rw [hr.2.1] at this
          simp at this
      · rename_i r _ hr
        simp at hr
        rw [hr.1] at hc
        simp at hc
      · rw [e1, hv]
        congr 1; omega
theorem pz_print {u : Nat} (hu : u < 18446744073709551616) : pz (fPrint u) = fCanon u := by
  unfold fPrint fCanon
  cases hn : fNan u with
  | true => simp [pz]
  | false =>
    simp only [Bool.false_eq_true, if_false]
    split
    · rename_i h; rw [h]; decide
    · split
      · rename_i h; rw [h]; decide
      · split
        · rename_i h; rw [h]; decide
        · rename_i h1 h2 h3
          cases hw : fWhole u with
          | some n =>
            simp only
            rw [pz_whole]
            rcases (fWhole_some hu hw).2 with h | ⟨h, _⟩
            · exact h
            · exact absurd h h3
          | none =>
            simp only
            have hl : ∀ t : List UInt8, t.length < 18 → (48 :: 120 :: hexk 16 u) ≠ t := by
              intro t ht he
              have := congrArg List.length he
              simp [hexk_len] at this
              omega
            unfold pz
            rw [if_neg (hl _ (by decide)), if_neg (hl _ (by decide)), if_neg (hl _ (by decide)), if_neg (hl _ (by decide))]
            simp only
            rw [hval_hexk, Nat.mod_eq_of_lt (by omega)]
            omega
theorem fPrint_canon (u : Nat) : fPrint (fCanon u) = fPrint u := by
  unfold fCanon
  split
  · rename_i h
    have h1 : fNan 9221120237041090560 = true := by decide
    unfold fPrint
    rw [if_pos h1, if_pos h]
  · rfl
theorem fPrint_inj {a b : Nat} (ha : a < 18446744073709551616) (hb : b < 18446744073709551616) : fPrint a = fPrint b ↔ fCanon a = fCanon b := by
  constructor
  · intro h; rw [← pz_print ha, h, pz_print hb]
  · intro h; rw [← fPrint_canon a, h, fPrint_canon b]
end Go.Proofs.YtfjpnkchldjjmaaGreatDoor
