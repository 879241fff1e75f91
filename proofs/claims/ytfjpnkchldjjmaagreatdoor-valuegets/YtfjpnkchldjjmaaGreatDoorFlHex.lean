/- Hexadecimal digits without leading zeros, and read again, plainly; no program. -/
import Derived.Test.YtfjpnkchldjjmaaGreatDoorFlText
namespace Go.Proofs.YtfjpnkchldjjmaaGreatDoor

/-- The hexadecimal digits of a number. -/
def hexs (n : Nat) : List UInt8 := if _h : n < 16 then [hexd n] else hexs (n / 16) ++ [hexd (n % 16)]
termination_by n
decreasing_by omega
theorem hexs_small {n : Nat} (h : n < 16) : hexs n = [hexd n] := by rw [hexs, dif_pos h]
theorem hexs_big {n : Nat} (h : ¬ n < 16) : hexs n = hexs (n / 16) ++ [hexd (n % 16)] := by rw [hexs, dif_neg h]
theorem hexs_pos (n : Nat) : 0 < (hexs n).length := by
  by_cases h : n < 16
  · rw [hexs_small h]; simp
  · rw [hexs_big h]; simp
theorem hexs_len : ∀ (k n : Nat), n < 16 ^ (k + 1) → (hexs n).length ≤ k + 1
  | 0, n, h => by rw [hexs_small (by omega)]; simp
  | k + 1, n, h => by
    by_cases h1 : n < 16
    · rw [hexs_small h1]; simp
    · have h2 := hexs_len k (n / 16) (by rw [Nat.pow_succ] at h; omega)
      rw [hexs_big h1]; simp; omega
theorem hexk_snoc : ∀ (k u : Nat), hexk (k + 1) u = hexk k (u / 16) ++ [hexd (u % 16)]
  | 0, u => by simp [hexk]
  | k + 1, u => by
    rw [hexk, hexk_snoc k u, hexk, Nat.pow_succ, Nat.mul_comm, ← Nat.div_div_eq_div_mul]
    rfl
theorem hexk_zero : ∀ k, hexk k 0 = List.replicate k 48
  | 0 => rfl
  | k + 1 => by rw [hexk, hexk_zero k, Nat.zero_div]; rfl
theorem hexs_pad : ∀ (k u : Nat), u < 16 ^ (k + 1) → List.replicate (k + 1 - (hexs u).length) 48 ++ hexs u = hexk (k + 1) u
  | 0, u, h => by
    rw [hexs_small (by omega)]
    simp [hexk]
    congr 1
    omega
  | k + 1, u, h => by
    rw [hexk_snoc]
    by_cases h1 : u < 16
    · rw [hexs_small h1, show u / 16 = 0 by omega, hexk_zero, show u % 16 = u by omega]
      rfl
    · have ih := hexs_pad k (u / 16) (by rw [Nat.pow_succ] at h; omega)
      rw [hexs_big h1, ← ih, ← List.append_assoc]
      congr 2
      simp
/-- One hexadecimal digit as Go's library reads it: lower and upper letters. -/
def hexo (c : UInt8) : Option Nat :=
  if 48 ≤ c.toNat ∧ c.toNat ≤ 57 then some (c.toNat - 48)
  else if 97 ≤ c.toNat ∧ c.toNat ≤ 102 then some (c.toNat - 87)
  else if 65 ≤ c.toNat ∧ c.toNat ≤ 70 then some (c.toNat - 55) else none
theorem hexo_lt {c : UInt8} {d : Nat} (h : hexo c = some d) : d < 16 := by
  unfold hexo at h
  repeat' split at h
  all_goals first | (injection h with h; omega) | cases h
theorem hexo_hexd {d : Nat} (h : d < 16) : hexo (hexd d) = some d := by
  unfold hexo
  rw [hexd_nat h]
  by_cases h1 : d < 10
  · simp only [h1, if_true]; rw [if_pos (by omega)]; congr 1; omega
  · simp only [h1, if_false]; rw [if_neg (by omega), if_pos (by omega)]; congr 1; omega
/-- What Go's library reads digits of base 16 as, from a number on: nothing, if one is none or 64 bits are passed. -/
def hx : List UInt8 → Nat → Option Nat
  | [], n => some n
  | c :: r, n => match hexo c with
    | none => none
    | some d => if n < 1152921504606846976 then hx r (16 * n + d) else none
theorem hx_nil (n : Nat) : hx [] n = some n := rfl
theorem hx_bad {c : UInt8} {r : List UInt8} {n : Nat} (h : hexo c = none) : hx (c :: r) n = none := by rw [hx, h]
theorem hx_big {c : UInt8} {r : List UInt8} {n d : Nat} (h : hexo c = some d) (h2 : ¬ n < 1152921504606846976) : hx (c :: r) n = none := by rw [hx, h]; exact if_neg h2
theorem hx_one {c : UInt8} {r : List UInt8} {n d : Nat} (h : hexo c = some d) (h2 : n < 1152921504606846976) : hx (c :: r) n = hx r (16 * n + d) := by rw [hx, h]; exact if_pos h2
theorem hx_hexk : ∀ (k u n : Nat), n * 16 ^ k + u % 16 ^ k < 18446744073709551616 → hx (hexk k u) n = some (n * 16 ^ k + u % 16 ^ k)
  | 0, u, n, _ => by simp [hexk, hx, Nat.mod_one]
  | k + 1, u, n, h => by
    have hd := hexo_hexd (d := u / 16 ^ k % 16) (Nat.mod_lt _ (by omega))
    have e : n * 16 ^ (k + 1) + u % 16 ^ (k + 1) = (16 * n + u / 16 ^ k % 16) * 16 ^ k + u % 16 ^ k := by
      rw [Nat.pow_succ, Nat.mod_mul, Nat.add_mul, Nat.mul_comm 16 n, Nat.mul_assoc, Nat.mul_comm 16 (16 ^ k), Nat.add_assoc, Nat.mul_comm (u / 16 ^ k % 16), Nat.add_comm (16 ^ k * _)]
    have hn : n < 1152921504606846976 := by
      have h1 : 16 * n * 1 ≤ (16 * n + u / 16 ^ k % 16) * 16 ^ k := Nat.mul_le_mul (by omega) (Nat.pow_pos (by omega))
      rw [e] at h
      omega
    rw [e] at h ⊢
    rw [hexk, hx_one hd hn]
    exact hx_hexk k u _ h
end Go.Proofs.YtfjpnkchldjjmaaGreatDoor
