/- A map of blocks by what it is: which are taken, how many are reserved; what each call answers and leaves, as functions. Of no program. -/
import Derived.Test.YtfkaobpfdpfahaaBase
namespace Go.Proofs.Ytfkaobpfdpfahaa
open Go.RowKit

structure Sp where
  T : List Bool
  r : Nat
structure Sp.ok (s : Sp) : Prop where
  n1 : 1 ≤ s.T.length
  n2 : s.T.length ≤ 4096
  r1 : s.r ≤ s.T.length
  res : ∀ i, i < s.r → s.T[i]? = some true
def Sp.hs (s : Sp) (i : Int) : Bool := decide (0 ≤ i) && decide (i < (s.T.length : Int))
def Sp.tk (s : Sp) (i : Int) : Bool := decide (0 ≤ i) && s.T.getD i.toNat false
def Sp.fr (s : Sp) (i : Int) : Bool := decide (0 ≤ i) && !s.T.getD i.toNat true
def Sp.gv (s : Sp) (i : Int) : Bool := s.tk i && decide ((s.r : Int) ≤ i)
def Sp.put (s : Sp) (i : Nat) (b : Bool) : Sp := { s with T := s.T.set i b }
def Sp.mark (s : Sp) (i : Int) : Sp := if s.fr i then s.put i.toNat true else s
def Sp.give (s : Sp) (i : Int) : Sp := if s.gv i then s.put i.toNat false else s
def Sp.least (s : Sp) : Nat := s.T.idxOf false
def Sp.any (s : Sp) : Bool := decide (s.least < s.T.length)
def Sp.takeN (s : Sp) : Nat := if s.any then s.least else 0
def Sp.take (s : Sp) : Sp := s.put s.least true
def Sp.free (s : Sp) : Nat := s.T.count false

theorem Sp.put_len (s : Sp) (i : Nat) (b : Bool) : (s.put i b).T.length = s.T.length := by simp [Sp.put]
theorem Sp.put_r (s : Sp) (i : Nat) (b : Bool) : (s.put i b).r = s.r := rfl
theorem Sp.ok.put {s : Sp} (h : s.ok) (i : Nat) (b : Bool) (hb : b = true ∨ s.r ≤ i) : (s.put i b).ok := by
  refine ⟨by rw [Sp.put_len]; exact h.n1, by rw [Sp.put_len]; exact h.n2, by rw [Sp.put_len]; exact h.r1, fun j hj => ?_⟩
  have hj' : j < s.r := hj
  have := h.res j hj'
  show (s.T.set i b)[j]? = _
  rw [List.getElem?_set]
  split
  · subst_vars
    have hl := h.r1
    rcases hb with rfl | hb
    · rw [if_pos (by omega)]
    · omega
  · exact this
theorem Sp.tk_out (s : Sp) (i : Int) (h : s.hs i = false) : s.tk i = false := by
  unfold Sp.hs at h; unfold Sp.tk
  rcases Int.lt_or_le i 0 with h0 | h0
  · simp [Int.not_le.2 h0]
  · simp [h0] at h
    simp [List.getElem?_eq_none (show s.T.length ≤ i.toNat by omega)]
theorem Sp.fr_out (s : Sp) (i : Int) (h : s.hs i = false) : s.fr i = false := by
  unfold Sp.hs at h; unfold Sp.fr
  rcases Int.lt_or_le i 0 with h0 | h0
  · simp [Int.not_le.2 h0]
  · simp [h0] at h
    simp [List.getElem?_eq_none (show s.T.length ≤ i.toNat by omega)]
theorem Sp.hs_in (s : Sp) (i : Int) (h : s.hs i = true) : ∃ (j : Nat) (b : Bool), i = (j : Int) ∧ j < s.T.length ∧ s.T[j]? = some b := by
  unfold Sp.hs at h
  simp at h
  exact ⟨i.toNat, s.T[i.toNat]'(by omega), by omega, by omega, by simp⟩
theorem Sp.hs_of (s : Sp) (j : Nat) (h : j < s.T.length) : s.hs (j : Int) = true := by
  unfold Sp.hs; simp; omega
theorem Sp.lt_of {s : Sp} {j : Nat} {b : Bool} (h : s.T[j]? = some b) : j < s.T.length := (List.getElem?_eq_some_iff.1 h).1
theorem Sp.tk_in {s : Sp} {j : Nat} {b : Bool} (h : s.T[j]? = some b) : s.tk (j : Int) = b := by simp [Sp.tk, h]
theorem Sp.fr_in {s : Sp} {j : Nat} {b : Bool} (h : s.T[j]? = some b) : s.fr (j : Int) = !b := by simp [Sp.fr, h]
theorem Sp.fr_iff (s : Sp) (i : Int) : s.fr i = true ↔ ∃ j : Nat, i = (j : Int) ∧ s.T[j]? = some false := by
  constructor
  · intro h
    cases hh : s.hs i with
    | false => rw [s.fr_out i hh] at h; cases h
    | true =>
      obtain ⟨j, b, rfl, _, hb⟩ := s.hs_in i hh
      rw [Sp.fr_in hb] at h
      cases b
      · exact ⟨j, rfl, hb⟩
      · cases h
  · rintro ⟨j, rfl, h⟩
    rw [Sp.fr_in h]; rfl
theorem Sp.gv_iff (s : Sp) (i : Int) : s.gv i = true ↔ ∃ j : Nat, i = (j : Int) ∧ s.T[j]? = some true ∧ s.r ≤ j := by
  constructor
  · intro h
    unfold Sp.gv at h
    rw [Bool.and_eq_true] at h
    obtain ⟨h1, h2⟩ := h
    cases hh : s.hs i with
    | false => rw [s.tk_out i hh] at h1; cases h1
    | true =>
      obtain ⟨j, b, rfl, _, hb⟩ := s.hs_in i hh
      rw [Sp.tk_in hb] at h1
      subst h1
      exact ⟨j, rfl, hb, by simpa using h2⟩
  · rintro ⟨j, rfl, h, hr⟩
    unfold Sp.gv
    rw [Sp.tk_in h]
    simpa using hr
theorem Sp.ok.mark {s : Sp} (h : s.ok) (i : Int) : (s.mark i).ok := by
  unfold Sp.mark; split
  · exact h.put _ _ (.inl rfl)
  · exact h
theorem Sp.ok.give {s : Sp} (h : s.ok) (i : Int) : (s.give i).ok := by
  unfold Sp.give; split
  · rename_i hg
    obtain ⟨j, rfl, _, hr⟩ := (s.gv_iff i).1 hg
    exact h.put _ _ (.inr (by simpa using hr))
  · exact h
theorem Sp.ok.take {s : Sp} (h : s.ok) : s.take.ok := h.put _ _ (.inl rfl)
theorem Sp.mark_len (s : Sp) (i : Int) : (s.mark i).T.length = s.T.length := by unfold Sp.mark; split <;> simp [Sp.put_len]
theorem Sp.give_len (s : Sp) (i : Int) : (s.give i).T.length = s.T.length := by unfold Sp.give; split <;> simp [Sp.put_len]
theorem Sp.take_len (s : Sp) : s.take.T.length = s.T.length := by unfold Sp.take; simp [Sp.put_len]
theorem Sp.mark_r (s : Sp) (i : Int) : (s.mark i).r = s.r := by unfold Sp.mark; split <;> rfl
theorem Sp.give_r (s : Sp) (i : Int) : (s.give i).r = s.r := by unfold Sp.give; split <;> rfl
theorem Sp.take_r (s : Sp) : s.take.r = s.r := rfl

/-- The least that is free: all below it are taken. -/
theorem idx_of {l : List Bool} {j : Nat} (h : ∀ i, i < j → l[i]? = some true) (hj : l[j]? = some false) : l.idxOf false = j := by
  induction l generalizing j with
  | nil => simp at hj
  | cons a r ih =>
    cases j with
    | zero => simp at hj; subst hj; simp
    | succ j =>
      have h0 := h 0 (by omega)
      simp at h0
      subst h0
      rw [List.idxOf_cons]
      simp
      exact ih (fun i hi => by have := h (i + 1) (by omega); simpa using this) (by simpa using hj)
theorem idx_none {l : List Bool} (h : ∀ i, i < l.length → l[i]? = some true) : l.idxOf false = l.length := by
  induction l with
  | nil => rfl
  | cons a r ih =>
    have h0 := h 0 (by simp)
    simp at h0
    subst h0
    rw [List.idxOf_cons]
    simp
    exact ih fun i hi => by have := h (i + 1) (by simp; omega); simpa using this
theorem idx_least (l : List Bool) (h : l.idxOf false < l.length) : l[l.idxOf false]? = some false := by
  rw [List.getElem?_eq_getElem h, List.getElem_idxOf h]
theorem idx_count (l : List Bool) : l.idxOf false < l.length ↔ 0 < l.count false := by
  rw [List.idxOf_lt_length_iff, List.count_pos_iff]
theorem count_put (l : List Bool) (j : Nat) (b : Bool) (h : l[j]? = some b) : (l.set j true).count false + (if b then 0 else 1) = l.count false ∧ (l.set j false).count false = l.count false + (if b then 1 else 0) := by
  induction l generalizing j with
  | nil => simp at h
  | cons a r ih =>
    cases j with
    | zero =>
      simp at h
      subst h
      cases a <;> simp
    | succ j =>
      have := ih j (by simpa using h)
      simp only [List.set_cons_succ, List.count_cons]
      omega
theorem count_all (l : List Bool) : l.count false + l.count true = l.length := by
  induction l with
  | nil => rfl
  | cons a r ih => cases a <;> simp <;> omega
theorem Sp.take_free (s : Sp) : s.take.free = s.free - 1 := by
  unfold Sp.take Sp.free Sp.put Sp.least
  by_cases h : s.T.idxOf false < s.T.length
  · have := (count_put s.T _ _ (idx_least _ h)).1
    simp at this ⊢
    omega
  · rw [List.set_eq_of_length_le (by omega)]
    have := mt (idx_count s.T).2 h
    show s.T.count false = s.T.count false - 1
    omega
theorem Sp.any_iff (s : Sp) : s.any = decide (0 < s.free) := by
  unfold Sp.any Sp.least Sp.free
  exact decide_eq_decide.2 (idx_count _)
theorem Sp.give_free (s : Sp) (i : Int) : (s.give i).free = s.free + (if s.gv i then 1 else 0) := by
  unfold Sp.give
  split
  · rename_i h
    obtain ⟨j, rfl, hb, _⟩ := (s.gv_iff i).1 h
    have := (count_put s.T j true hb).2
    simpa [Sp.free, Sp.put] using this
  · rfl
theorem Sp.free_le (s : Sp) : s.free ≤ s.T.length := List.count_le_length
end Go.Proofs.Ytfkaobpfdpfahaa
