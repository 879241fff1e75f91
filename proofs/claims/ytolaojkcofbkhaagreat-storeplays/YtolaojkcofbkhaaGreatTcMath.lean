import Derived.Test.YtolaojkcofbkhaaGreatBase
namespace Go.Proofs.YtolaojkcofbkhaaGreat
def tCmp : List UInt8 → List UInt8 → Int
 | [], [] => 0
 | [], _ :: _ => -1
 | _ :: _, [] => 1
 | a :: x, b :: y => if a.toNat < b.toNat then -1 else if b.toNat < a.toNat then 1 else tCmp x y
theorem tCmp_self : ∀ l, tCmp l l = 0
 | [] => rfl
 | a :: x => by rw [tCmp, if_neg (by omega), if_neg (by omega)]; exact tCmp_self x
theorem tCmp_cases : ∀ a b, tCmp a b = -1 ∨ tCmp a b = 0 ∨ tCmp a b = 1
 | [], [] => .inr (.inl rfl)
 | [], _ :: _ => .inl rfl
 | _ :: _, [] => .inr (.inr rfl)
 | a :: x, b :: y => by
  rw [tCmp]
  split
  · exact .inl rfl
  split
  · exact .inr (.inr rfl)
  · exact tCmp_cases x y
theorem tCmp_turn : ∀ a b, tCmp a b = - tCmp b a
 | [], [] => rfl
 | [], _ :: _ => rfl
 | _ :: _, [] => rfl
 | a :: x, b :: y => by
  have h := tCmp_turn x y
  rw [tCmp, tCmp]
  (repeat' split) <;> omega
theorem tCmp_zero : ∀ {a b : List UInt8}, tCmp a b = 0 ↔ a = b
 | [], [] => by simp [tCmp]
 | [], _ :: _ => by simp [tCmp]
 | _ :: _, [] => by simp [tCmp]
 | a :: x, b :: y => by
  have h := tCmp_zero (a := x) (b := y)
  rw [tCmp]
  constructor
  · intro h1
    split at h1
    · omega
    split at h1
    · omega
    · have e : a = b := UInt8.toNat_inj.1 (by omega)
      rw [e, h.1 h1]
  · intro h1
    injection h1 with h2 h3
    subst h2 h3
    rw [if_neg (by omega), if_neg (by omega)]
    exact tCmp_self _
theorem tCmp_trans : ∀ {a b c : List UInt8}, tCmp a b ≤ 0 → tCmp b c ≤ 0 → tCmp a c ≤ 0
 | [], _, [], _, _ => by simp [tCmp]
 | [], _, _ :: _, _, _ => by simp [tCmp]
 | _ :: _, [], _, h, _ => by simp [tCmp] at h
 | _ :: _, _ :: _, [], _, h => by simp [tCmp] at h
 | a :: x, b :: y, c :: z, h1, h2 => by
  have ih := tCmp_trans (a := x) (b := y) (c := z)
  rw [tCmp] at h1 h2 ⊢
  by_cases p1 : a.toNat < b.toNat
  · by_cases p2 : b.toNat < c.toNat
    · rw [if_pos (by omega)]; omega
    · rw [if_neg p2] at h2
      by_cases p3 : c.toNat < b.toNat
      · rw [if_pos p3] at h2; omega
      · rw [if_pos (by omega)]; omega
  · rw [if_neg p1] at h1
    by_cases p4 : b.toNat < a.toNat
    · rw [if_pos p4] at h1; omega
    · rw [if_neg p4] at h1
      by_cases p2 : b.toNat < c.toNat
      · rw [if_pos (by omega)]; omega
      · rw [if_neg p2] at h2
        by_cases p3 : c.toNat < b.toNat
        · rw [if_pos p3] at h2; omega
        · rw [if_neg p3] at h2
          rw [if_neg (by omega), if_neg (by omega)]
          exact ih h1 h2
theorem less_tCmp : ∀ a b : List UInt8, Op.bytesLess a b = decide (tCmp a b = -1)
 | [], [] => by simp [Op.bytesLess, tCmp]
 | _ :: _, [] => by simp [Op.bytesLess, tCmp]
 | [], _ :: _ => by simp [Op.bytesLess, tCmp]
 | a :: x, b :: y => by
  rw [Op.bytesLess, less_tCmp x y, tCmp]
  have h1 : (a < b) ↔ a.toNat < b.toNat := UInt8.lt_iff_toNat_lt
  have h2 : (a = b) ↔ a.toNat = b.toNat := UInt8.toNat_inj.symm
  by_cases p : a.toNat < b.toNat
  · simp [h1, p]
  · by_cases q : b.toNat < a.toNat
    · have : ¬ a = b := fun e => by rw [h2] at e; omega
      simp [h1, p, q, this]
    · have : a = b := h2.2 (by omega)
      simp [this]
theorem less_self (a : List UInt8) : Op.bytesLess a a = false := by rw [less_tCmp, tCmp_self]; rfl
theorem less_trans {a b c : List UInt8} (h1 : Op.bytesLess a b = true) (h2 : Op.bytesLess b c = true) : Op.bytesLess a c = true := by
 rw [less_tCmp, decide_eq_true_eq] at h1 h2 ⊢
 have h := tCmp_trans (a := a) (b := b) (c := c) (by omega) (by omega)
 rcases tCmp_cases a c with e | e | e
 · exact e
 · have := tCmp_zero.1 e
   subst this
   have := tCmp_turn a b
   omega
 · omega
theorem less_turn {a b : List UInt8} (h : Op.bytesLess a b = true) : Op.bytesLess b a = false := by
 rw [less_tCmp, decide_eq_true_eq] at h
 rw [less_tCmp, decide_eq_false_iff_not]
 have := tCmp_turn a b
 omega
theorem less_ne {a b : List UInt8} (h : Op.bytesLess a b = true) : a ≠ b := by
 rintro rfl
 rw [less_self] at h
 cases h
theorem less_tri {a b : List UInt8} (h : Op.bytesLess a b = false) (hn : a ≠ b) : Op.bytesLess b a = true := by
 rw [less_tCmp, decide_eq_false_iff_not] at h
 rw [less_tCmp, decide_eq_true_eq]
 have h1 := tCmp_turn a b
 rcases tCmp_cases a b with e | e | e
 · exact absurd e h
 · exact absurd (tCmp_zero.1 e) hn
 · omega
end Go.Proofs.YtolaojkcofbkhaaGreat
