/- The bytes of natural numbers, plainly: how they are written, how long they are, how they are read; no program. -/
namespace Go.Proofs.Ytejmllpffocneaa

/-- A natural number's bytes, the lowest seven bits first. -/
def nat (n : Nat) : List UInt8 :=
  if h : n < 128 then [UInt8.ofNat n] else UInt8.ofNat (n % 128 + 128) :: nat (n / 128)
termination_by n
decreasing_by omega

theorem nat_small {n : Nat} (h : n < 128) : nat n = [UInt8.ofNat n] := by rw [nat, dif_pos h]
theorem nat_big {n : Nat} (h : ¬ n < 128) : nat n = UInt8.ofNat (n % 128 + 128) :: nat (n / 128) := by rw [nat, dif_neg h]
theorem nat_pos (n : Nat) : 0 < (nat n).length := by
  by_cases h : n < 128
  · rw [nat_small h]; simp
  · rw [nat_big h]; simp
theorem nat_len_le : ∀ (k n : Nat), n < 128 ^ (k + 1) → (nat n).length ≤ k + 1
  | 0, n, h => by rw [nat_small (by omega)]; simp
  | k + 1, n, h => by
    by_cases hn : n < 128
    · rw [nat_small hn]; simp
    · rw [nat_big hn, List.length_cons]
      have := nat_len_le k (n / 128) (by rw [Nat.pow_succ] at h; exact (Nat.div_lt_iff_lt_mul (by omega)).2 h)
      omega
theorem nat_len_u64 {n : Nat} (h : n < 18446744073709551616) : (nat n).length ≤ 10 := nat_len_le 9 n (by omega)

/-- 2n, or -2n-1. -/
def fold (n : Int) : Nat := if n < 0 then (-2 * n - 1).toNat else (2 * n).toNat
theorem fold_lt {n : Int} (h1 : -9223372036854775808 ≤ n) (h2 : n ≤ 9223372036854775807) : fold n < 18446744073709551616 := by unfold fold; split <;> omega
def unfold_ (u : Nat) : Int := if u % 2 = 0 then (u / 2 : Nat) else -((u / 2 : Nat) : Int) - 1
theorem unfold_fold (n : Int) : unfold_ (fold n) = n := by unfold unfold_ fold; split <;> split <;> omega

/-- The natural number at the beginning of bytes, from place i on, n being what was read ahead of it; and where it ends: 0, if there is none. -/
def rdN : List UInt8 → Nat → Nat → Nat × Nat
  | [], _, _ => (0, 0)
  | c :: cs, i, n =>
    if i = 9 ∧ 1 < c.toNat then (0, 0)
    else if 128 ≤ c.toNat then rdN cs (i + 1) (n + c.toNat % 128 * 128 ^ i)
    else if c.toNat = 0 ∧ 0 < i then (0, 0)
    else (n + c.toNat % 128 * 128 ^ i, i + 1)
def rd (l : List UInt8) : Nat × Nat := rdN l 0 0
theorem rdN_nil (i n : Nat) : rdN [] i n = (0, 0) := rfl
theorem rdN_over {c : UInt8} {cs : List UInt8} {n : Nat} (h : 1 < c.toNat) : rdN (c :: cs) 9 n = (0, 0) := by rw [rdN, if_pos ⟨rfl, h⟩]
theorem rdN_on {c : UInt8} {cs : List UInt8} {i n : Nat} (h : ¬ (i = 9 ∧ 1 < c.toNat)) (h2 : 128 ≤ c.toNat) : rdN (c :: cs) i n = rdN cs (i + 1) (n + c.toNat % 128 * 128 ^ i) := by rw [rdN, if_neg h, if_pos h2]
theorem rdN_zero {c : UInt8} {cs : List UInt8} {i n : Nat} (h : ¬ (i = 9 ∧ 1 < c.toNat)) (h2 : c.toNat = 0) (h3 : 0 < i) : rdN (c :: cs) i n = (0, 0) := by rw [rdN, if_neg h, if_neg (by omega), if_pos ⟨h2, h3⟩]
theorem rdN_end {c : UInt8} {cs : List UInt8} {i n : Nat} (h : ¬ (i = 9 ∧ 1 < c.toNat)) (h2 : c.toNat < 128) (h3 : ¬ (c.toNat = 0 ∧ 0 < i)) : rdN (c :: cs) i n = (n + c.toNat % 128 * 128 ^ i, i + 1) := by rw [rdN, if_neg h, if_neg (by omega), if_neg h3]

theorem rdN_le : ∀ (l : List UInt8) (i n : Nat), (rdN l i n).2 ≤ i + l.length
  | [], i, n => by simp [rdN]
  | c :: cs, i, n => by
    have := rdN_le cs (i + 1) (n + c.toNat % 128 * 128 ^ i)
    rw [rdN]
    split
    · simp
    · split
      · simp only [List.length_cons]; omega
      · split
        · simp
        · simp
theorem rd_le (l : List UInt8) : (rd l).2 ≤ l.length := by have := rdN_le l 0 0; unfold rd; omega
theorem pow128 (i : Nat) (h : i ≤ 9) : 128 ^ i ≤ 9223372036854775808 := by
  have : 128 ^ i ≤ 128 ^ 9 := Nat.pow_le_pow_right (by omega) h
  simpa using this
theorem step_lt {n c i : Nat} (h : n < 128 ^ i) : n + c % 128 * 128 ^ i < 128 ^ (i + 1) := by
  have h1 : c % 128 ≤ 127 := by omega
  have h2 : c % 128 * 128 ^ i ≤ 127 * 128 ^ i := Nat.mul_le_mul_right _ h1
  rw [Nat.pow_succ]
  omega
theorem step_u64 {n c i : Nat} (h : n < 128 ^ i) (hi : i ≤ 9) (hc : i = 9 → c ≤ 1) : n + c % 128 * 128 ^ i < 18446744073709551616 := by
  by_cases h9 : i = 9
  · subst h9
    have := hc rfl
    have h2 : c % 128 * 128 ^ 9 ≤ 1 * 128 ^ 9 := Nat.mul_le_mul_right _ (by omega)
    omega
  · have h1 := step_lt (c := c) h
    have h2 := pow128 (i + 1) (by omega)
    omega
theorem rdN_lt : ∀ (l : List UInt8) (i n : Nat), n < 128 ^ i → i ≤ 9 → (rdN l i n).1 < 18446744073709551616
  | [], i, n, _, _ => by simp [rdN]
  | c :: cs, i, n, hn, hi => by
    rw [rdN]
    split
    · simp
    · rename_i h1
      split
      · rename_i h2
        exact rdN_lt cs (i + 1) _ (step_lt hn) (by omega)
      · split
        · simp
        · exact step_u64 hn hi (fun h => by omega)
theorem rd_lt (l : List UInt8) : (rd l).1 < 18446744073709551616 := rdN_lt l 0 0 (by simp) (by omega)

/-- What is written is read again. -/
theorem rdN_nat : ∀ (m : Nat) (q i n : Nat) (r : List UInt8), q ≤ m → i ≤ 9 → (0 < i → 0 < q) → q * 128 ^ i < 18446744073709551616 → rdN (nat q ++ r) i n = (n + q * 128 ^ i, i + (nat q).length) := by
  intro m
  induction m with
  | zero =>
    intro q i n r hq hi h0 hb
    have : q = 0 := by omega
    subst this
    have : i = 0 := by omega
    subst this
    rw [nat_small (by omega)]
    simp [rdN]
  | succ m ih =>
    intro q i n r hq hi h0 hb
    by_cases hs : q < 128
    · rw [nat_small hs]
      have hc : (UInt8.ofNat q).toNat = q := by simp; omega
      rw [List.singleton_append, rdN_end (by rw [hc]; rintro ⟨rfl, h⟩; simp at hb; omega) (by rw [hc]; exact hs) (by rw [hc]; omega), hc, Nat.mod_eq_of_lt hs]
      simp
    · rw [nat_big hs]
      have hc : (UInt8.ofNat (q % 128 + 128)).toNat = q % 128 + 128 := by simp; omega
      have h9 : i < 9 := by
        rcases Nat.lt_or_ge i 9 with h | h
        · exact h
        · have : i = 9 := by omega
          subst this
          simp at hb; omega
      rw [List.cons_append, rdN_on (by omega) (by rw [hc]; omega), hc, ih (q / 128) (i + 1) _ r (by omega) (by omega) (by omega) ?_]
      · have e1 : (q % 128 + 128) % 128 = q % 128 := by omega
        have e2 : q / 128 * 128 ^ (i + 1) = q / 128 * 128 * 128 ^ i := by rw [Nat.pow_succ, Nat.mul_assoc, Nat.mul_comm 128]
        have e3 : q % 128 * 128 ^ i + q / 128 * 128 * 128 ^ i = q * 128 ^ i := by rw [← Nat.add_mul]; congr 1; omega
        rw [e1, e2, List.length_cons]
        congr 1 <;> omega
      · rw [Nat.pow_succ, Nat.mul_comm (128 ^ i), ← Nat.mul_assoc]
        exact Nat.lt_of_le_of_lt (Nat.mul_le_mul_right _ (Nat.div_mul_le_self q 128)) hb
theorem rd_nat (q : Nat) (r : List UInt8) (h : q < 18446744073709551616) : rd (nat q ++ r) = (q, (nat q).length) := by
  have := rdN_nat q q 0 0 r (Nat.le_refl _) (by omega) (by omega) (by simpa using h)
  unfold rd
  rw [this]
  simp

theorem nat_mono : ∀ (m a b : Nat), b ≤ m → a ≤ b → (nat a).length ≤ (nat b).length := by
  intro m
  induction m with
  | zero => intro a b hb hab; have : a = b := by omega
            subst this; exact Nat.le_refl _
  | succ m ih =>
    intro a b hb hab
    by_cases ha : a < 128
    · rw [nat_small ha]; exact nat_pos b
    · rw [nat_big ha, nat_big (n := b) (by omega), List.length_cons, List.length_cons]
      have := ih (a / 128) (b / 128) (by omega) (Nat.div_le_div_right hab)
      omega
theorem nat_inj {a b : Nat} (ha : a < 18446744073709551616) (hb : b < 18446744073709551616) (h : nat a = nat b) : a = b := by
  have h1 := rd_nat a [] ha
  have h2 := rd_nat b [] hb
  rw [h] at h1
  rw [h1] at h2
  injection h2
/-- The number at the beginning of bytes stands there as numbers are written. -/
theorem rdN_back : ∀ (l : List UInt8) (i n : Nat), i ≤ 9 → (rdN l i n).2 ≠ 0 → ∃ q, (rdN l i n).1 = n + q * 128 ^ i ∧ (0 < i → 0 < q) ∧ i < (rdN l i n).2 ∧ l = nat q ++ l.drop ((rdN l i n).2 - i)
  | [], _, _, _, h => absurd rfl h
  | c :: cs, i, n, hi, h => by
    have hc := c.toNat_lt
    by_cases h1 : i = 9 ∧ 1 < c.toNat
    · rw [rdN, if_pos h1] at h; exact absurd rfl h
    by_cases h2 : 128 ≤ c.toNat
    · rw [rdN_on h1 h2] at h ⊢
      have h9 : i < 9 := by omega
      obtain ⟨q, e1, e2, e3, e4⟩ := rdN_back cs (i + 1) _ (by omega) h
      have hq := e2 (by omega)
      refine ⟨c.toNat % 128 + 128 * q, ?_, fun _ => by omega, by omega, ?_⟩
      · rw [e1, Nat.pow_succ, Nat.add_mul]
        have : q * (128 ^ i * 128) = 128 * q * 128 ^ i := by rw [Nat.mul_comm (128 ^ i) 128, ← Nat.mul_assoc, Nat.mul_comm q 128]
        omega
      · rw [nat_big (by omega), show (c.toNat % 128 + 128 * q) % 128 + 128 = c.toNat by omega, show (c.toNat % 128 + 128 * q) / 128 = q by omega]
        generalize (rdN cs (i + 1) (n + c.toNat % 128 * 128 ^ i)).2 = k at *
        obtain ⟨m, rfl⟩ : ∃ m, k = i + 1 + m := ⟨k - (i + 1), by omega⟩
        rw [show i + 1 + m - i = m + 1 by omega]
        rw [show i + 1 + m - (i + 1) = m by omega] at e4
        show c :: cs = UInt8.ofNat c.toNat :: (nat q ++ cs.drop m)
        rw [← e4]
        simp
    · by_cases h3 : c.toNat = 0 ∧ 0 < i
      · rw [rdN_zero h1 h3.1 h3.2] at h; exact absurd rfl h
      · rw [rdN_end h1 (by omega) h3] at h ⊢
        refine ⟨c.toNat, by rw [Nat.mod_eq_of_lt (by omega)], fun _ => by omega, by simp, ?_⟩
        rw [nat_small (by omega)]
        show c :: cs = UInt8.ofNat c.toNat :: (c :: cs).drop (i + 1 - i)
        rw [show i + 1 - i = 1 by omega]
        simp
theorem rd_back {l : List UInt8} (h : (rd l).2 ≠ 0) : l = nat (rd l).1 ++ l.drop (rd l).2 := by
  obtain ⟨q, e1, _, _, e4⟩ := rdN_back l 0 0 (by omega) h
  have e5 : (rd l).1 = q := by show (rdN l 0 0).1 = q; rw [e1]; simp
  rw [e5]
  exact e4
theorem fold_unfold (u : Nat) : fold (unfold_ u) = u := by unfold fold unfold_; split <;> split <;> omega
theorem rd_nat' (q : Nat) (r : List UInt8) (h : q < 18446744073709551616) : (rd (nat q ++ r)).1 = q ∧ (rd (nat q ++ r)).2 ≠ 0 ∧ (nat q ++ r).drop (rd (nat q ++ r)).2 = r := by
  rw [rd_nat q r h]
  have := nat_pos q
  exact ⟨rfl, by show (nat q).length ≠ 0; omega, by show (nat q ++ r).drop (nat q).length = r; simp⟩
end Go.Proofs.Ytejmllpffocneaa
