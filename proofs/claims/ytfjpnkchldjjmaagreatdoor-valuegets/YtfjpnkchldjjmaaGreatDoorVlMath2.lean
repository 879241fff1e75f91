/- Texts held against each other byte by byte, further: as the model's strings are, and step by step; no program. -/
import Derived.Test.YtfjpnkchldjjmaaGreatDoorVlMath
import Derived.Test.YtfjpnkchldjjmaaGreatDoorBase
namespace Go.Proofs.YtfjpnkchldjjmaaGreatDoor
open Go.RowKit

theorem less_tCmp : ∀ a b : List UInt8, Op.bytesLess a b = decide (tCmp a b = -1)
  | [], [] => by simp [Op.bytesLess, tCmp]
  | _ :: _, [] => by simp [Op.bytesLess, tCmp]
  | [], _ :: _ => by simp [Op.bytesLess, tCmp]
  | a :: x, b :: y => by
    rw [Op.bytesLess, less_tCmp x y, tCmp]
    have h1 : (a < b) ↔ a.toNat < b.toNat := UInt8.lt_iff_toNat_lt
    have h2 : (a = b) ↔ a.toNat = b.toNat := UInt8.toNat_inj.symm
    by_cases p : a.toNat < b.toNat
    · simp [h1, p]
    · by_cases q : b.toNat < a.toNat
      · have : ¬ a = b := fun e => by rw [h2] at e; omega
        simp [h1, p, q, this]
      · have : a = b := h2.2 (by omega)
        simp [this]
theorem tCmp_step {a b : List UInt8} {i : Nat} {x y : UInt8} (ha : a[i]? = some x) (hb : b[i]? = some y) :
    tCmp (a.drop i) (b.drop i) = if x.toNat < y.toNat then -1 else if y.toNat < x.toNat then 1 else tCmp (a.drop (i + 1)) (b.drop (i + 1)) := by
  obtain ⟨h1, rfl⟩ := List.getElem?_eq_some_iff.1 ha
  obtain ⟨h2, rfl⟩ := List.getElem?_eq_some_iff.1 hb
  rw [List.drop_eq_getElem_cons h1, List.drop_eq_getElem_cons h2, tCmp]
theorem tCmp_nil (b : List UInt8) : tCmp [] b = sgn (0 - (b.length : Int)) := by
  cases b with
  | nil => rfl
  | cons c r => show (-1 : Int) = _; unfold sgn; rw [if_pos (by simp only [List.length_cons]; omega)]
theorem tCmp_end {a b : List UInt8} {i : Nat} (ha : i ≤ a.length) (hb : i ≤ b.length) (h : i = a.length ∨ i = b.length) : tCmp (a.drop i) (b.drop i) = sgn ((a.length : Int) - b.length) := by
  rcases h with h | h
  · rw [List.drop_of_length_le (l := a) (by omega), tCmp_nil]
    congr 1
    simp
    omega
  · rw [List.drop_of_length_le (l := b) (by omega), tCmp_turn, tCmp_nil, ← sgn_neg]
    congr 1
    simp
    omega
/-- What stays of a value's number and float's bits, when it counts as null where it isn't right. -/
theorem vRt_f {v : Vl} (h : vf v < 18446744073709551616) : vf (vRt v) < 18446744073709551616 := by unfold vRt; split; exact h; decide
theorem vRt_n1 {v : Vl} (h : -9223372036854775808 ≤ vn v) : -9223372036854775808 ≤ vn (vRt v) := by unfold vRt; split; exact h; decide
theorem vRt_n2 {v : Vl} (h : vn v ≤ 9223372036854775807) : vn (vRt v) ≤ 9223372036854775807 := by unfold vRt; split; exact h; decide
theorem vRt_no {v : Vl} (h : vRight v = false) : vRt v = vNull := by unfold vRt; rw [h]; rfl
theorem vRt_s (v : Vl) : (vs (vRt v)).length ≤ 64 := by
  rcases vRight_cases (vRt_right v) with h | ⟨n, h⟩ | h | h | ⟨s, hs, h⟩ | ⟨f, hf, h⟩ <;> rw [h] <;> first | exact hs | exact Nat.zero_le _
theorem vRt_k (v : Vl) : vk (vRt v) = 0 ∨ vk (vRt v) = 1 ∨ vk (vRt v) = 2 ∨ vk (vRt v) = 3 ∨ vk (vRt v) = 4 := by
  rcases vRight_cases (vRt_right v) with h | ⟨n, h⟩ | h | h | ⟨s, hs, h⟩ | ⟨f, hf, h⟩ <;> rw [h] <;> simp [vk, vNull]
theorem cmpR_ne {a b : Vl} (h : vk a ≠ vk b) : vCmpR a b = 0 ∧ vCmpOkR a b = false := ⟨by unfold vCmpR; exact if_pos (.inr h), by unfold vCmpOkR; simp [h]⟩
theorem cmpR_0 {a b : Vl} (h : vk a = 0) : vCmpR a b = 0 ∧ vCmpOkR a b = false := ⟨by unfold vCmpR; exact if_pos (.inl h), by unfold vCmpOkR; simp [h]⟩
theorem cmpR_12 {a b : Vl} (h : vk a = vk b) (h2 : vk a = 1 ∨ vk a = 2) : vCmpR a b = sgn (vn a - vn b) ∧ vCmpOkR a b = true := by
  constructor
  · unfold vCmpR; rw [if_neg (by omega), if_neg (by omega), if_neg (by omega)]
  · unfold vCmpOkR; rw [← h]; rcases h2 with h2 | h2 <;> simp [h2]
theorem cmpR_3 {a b : Vl} (h : vk a = vk b) (h2 : vk a = 3) : vCmpR a b = tCmp (vs a) (vs b) ∧ vCmpOkR a b = true := by
  constructor
  · unfold vCmpR; rw [if_neg (by omega), if_neg (by omega), if_pos h2]
  · unfold vCmpOkR; rw [← h]; simp [h2]
theorem cmpR_4 {a b : Vl} (h : vk a = vk b) (h2 : vk a = 4) : vCmpR a b = fCmp (vf a) (vf b) ∧ vCmpOkR a b = fCmpOk (vf a) (vf b) := by
  constructor
  · unfold vCmpR; rw [if_neg (by omega), if_pos h2]
  · unfold vCmpOkR; rw [← h]; simp [h2]
theorem ordR_ne {a b : Vl} (h : vk a ≠ vk b) : vOrdR a b = sgn (vk a - vk b) := by unfold vOrdR; exact if_pos h
theorem ordR_4 {a b : Vl} (h : vk a = vk b) (h2 : vk a = 4) : vOrdR a b = fOrd (vf a) (vf b) := by unfold vOrdR; rw [if_neg (fun c => c h), if_pos h2]
theorem ordR_cmp {a b : Vl} (h : vk a = vk b) (h2 : vk a ≠ 4) : vOrdR a b = vCmpR a b := by
  unfold vOrdR vCmpR
  by_cases h0 : vk a = 0
  · have hp : vk a = 0 ∨ vk a ≠ vk b := .inl h0
    have h3 : ¬ vk a = 3 := by omega
    simp only [if_pos hp, if_neg (fun c => c h : ¬ vk a ≠ vk b), if_neg h2, if_neg h3, if_pos h0]
  · have hp : ¬ (vk a = 0 ∨ vk a ≠ vk b) := by omega
    simp only [if_neg hp, if_neg (fun c => c h : ¬ vk a ≠ vk b), if_neg h2, if_neg h0]
theorem vRt_vRt (v : Vl) : vRt (vRt v) = vRt v := vRt_of (vRt_right v)
end Go.Proofs.YtfjpnkchldjjmaaGreatDoor
