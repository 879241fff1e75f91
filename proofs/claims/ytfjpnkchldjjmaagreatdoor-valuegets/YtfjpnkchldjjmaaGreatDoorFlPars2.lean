/- How the document's own reader of floats meets the floats' texts, plainly; no program. -/
import Derived.Test.YtfjpnkchldjjmaaGreatDoorFlParse
namespace Go.Proofs.YtfjpnkchldjjmaaGreatDoor

/-- What the text of a float looks like. -/
theorem fPrint_form {v : Nat} (hv : v < 18446744073709551616) : (fPrint v = tNan ∨ fPrint v = tInf ∨ fPrint v = tNinf ∨ fPrint v = tNz) ∨ (∃ n, inRange n = true ∧ fOfInt n = v ∧ fPrint v = digI n ++ [46]) ∨ (fNan v = false ∧ fPrint v = 48 :: 120 :: hexk 16 v) := by
  unfold fPrint
  cases hn : fNan v
  · simp only [Bool.false_eq_true, if_false]
    by_cases h1 : v = 9218868437227405312
    · rw [if_pos h1]; exact .inl (.inr (.inl rfl))
    rw [if_neg h1]
    by_cases h2 : v = 18442240474082181120
    · rw [if_pos h2]; exact .inl (.inr (.inr (.inl rfl)))
    rw [if_neg h2]
    by_cases h3 : v = 9223372036854775808
    · rw [if_pos h3]; exact .inl (.inr (.inr (.inr rfl)))
    rw [if_neg h3]
    cases hw : fWhole v with
    | some n =>
      obtain ⟨hr, hf⟩ := fWhole_some hv hw
      refine .inr (.inl ⟨n, hr, ?_, rfl⟩)
      rcases hf with h | h
      · exact h
      · exact absurd h.1 h3
    | none => exact .inr (.inr (by simp))
  · exact .inl (.inl rfl)
theorem digI_pre (n : Int) (r : List UInt8) : digI n ++ [46] ≠ 48 :: 120 :: r := by
  intro hp
  rcases digI_form n with ⟨c, l, e, _, _, hl⟩ | ⟨c, l, e, _, _, _⟩
  · rw [e] at hp
    cases l with
    | nil => simp at hp
    | cons d r2 =>
      have := hl d (by simp)
      simp at hp
      rw [hp.2.1] at this
      simp at this
  · rw [e] at hp
    simp at hp
/-- A text none of the four words: what it can be the text of. -/
theorem parse_form {l : List UInt8} {v : Nat} (h : fParse l = some v) (h1 : l ≠ tNan) (h2 : l ≠ tInf) (h3 : l ≠ tNinf) (h4 : l ≠ tNz) :
    (∃ n, inRange n = true ∧ fOfInt n = v ∧ l = digI n ++ [46]) ∨ (fNan v = false ∧ l = 48 :: 120 :: hexk 16 v) := by
  obtain ⟨hp, _, hv⟩ := fParse_some h
  rcases fPrint_form hv with h5 | h5 | h5
  · rw [hp] at h5
    rcases h5 with h5 | h5 | h5 | h5
    · exact absurd h5 h1
    · exact absurd h5 h2
    · exact absurd h5 h3
    · exact absurd h5 h4
  · obtain ⟨n, a, b, c⟩ := h5
    exact .inl ⟨n, a, b, hp.symm.trans c⟩
  · exact .inr ⟨h5.1, hp.symm.trans h5.2⟩
theorem p_nan : fParse tNan = some 9221120237041090560 := by
  have h := fParse_print (v := 9221120237041090560) (by omega)
  have e : fPrint 9221120237041090560 = tNan := by unfold fPrint; rw [show fNan 9221120237041090560 = true by decide]; rfl
  rw [e] at h
  exact h
theorem p_inf : fParse tInf = some 9218868437227405312 := by
  have h := fParse_print (v := 9218868437227405312) (by omega)
  have e : fPrint 9218868437227405312 = tInf := by unfold fPrint; rw [show fNan 9218868437227405312 = false by decide]; rfl
  rw [e] at h
  exact h
theorem p_ninf : fParse tNinf = some 18442240474082181120 := by
  have h := fParse_print (v := 18442240474082181120) (by omega)
  have e : fPrint 18442240474082181120 = tNinf := by unfold fPrint; rw [show fNan 18442240474082181120 = false by decide]; rfl
  rw [e] at h
  exact h
theorem p_nz2 : fParse tNz = some 9223372036854775808 := by
  have h := fParse_print (v := 9223372036854775808) (by omega)
  have e : fPrint 9223372036854775808 = tNz := by unfold fPrint; rw [show fNan 9223372036854775808 = false by decide]; rfl
  rw [e] at h
  exact h
theorem e1616 : (16 : Nat) ^ 16 = 18446744073709551616 := by decide
theorem hexk_all : ∀ (k u : Nat), ∀ c ∈ hexk k u, ∃ d, d < 16 ∧ c = hexd d
  | 0, _, c, h => by simp [hexk] at h
  | k + 1, u, c, h => by
    rw [hexk] at h
    rcases List.mem_cons.1 h with h | h
    · exact ⟨_, Nat.mod_lt _ (by omega), h⟩
    · exact hexk_all k u c h
/-- Sixteen digits read: the text is that float's or none's. -/
theorem hex_end {r : List UInt8} {u : Nat} (hu : u < 18446744073709551616) (hr : hexk 16 u = r) : fParse (48 :: 120 :: r) = if fPrint u = 48 :: 120 :: r then some u else none := by
  by_cases h : fPrint u = 48 :: 120 :: r
  · rw [if_pos h, ← h, fParse_print hu]
    cases hn : fNan u
    · unfold fCanon; rw [hn]; rfl
    · have e : fPrint u = tNan := by unfold fPrint; rw [hn]; rfl
      rw [e] at h; unfold tNan at h; simp at h
  · rw [if_neg h]
    cases hp : fParse (48 :: 120 :: r) with
    | none => rfl
    | some v =>
      exfalso
      have hv := (fParse_some hp).2.2
      rcases parse_form hp (by unfold tNan; simp) (by unfold tInf; simp) (by unfold tNinf; simp) (by unfold tNz; simp) with ⟨n, _, _, e⟩ | ⟨_, e⟩
      · exact digI_pre n r e.symm
      · injection e with _ e
        injection e with _ e
        have h2 := hexk_inj 16 u v (hr.trans e)
        rw [e1616, Nat.mod_eq_of_lt hu, Nat.mod_eq_of_lt hv] at h2
        subst h2
        exact h (fParse_some hp).1
theorem hex_bad {r : List UInt8} {c : UInt8} (hc : c ∈ r) (h : ∀ d, d < 16 → hexd d ≠ c) : fParse (48 :: 120 :: r) = none := by
  cases hp : fParse (48 :: 120 :: r) with
  | none => rfl
  | some v =>
    exfalso
    rcases parse_form hp (by unfold tNan; simp) (by unfold tInf; simp) (by unfold tNinf; simp) (by unfold tNz; simp) with ⟨n, _, _, e⟩ | ⟨_, e⟩
    · exact digI_pre n r e.symm
    · injection e with _ e
      injection e with _ e
      rw [e] at hc
      obtain ⟨d, hd, e2⟩ := hexk_all 16 v c hc
      exact h d hd e2.symm
theorem hexk_step {i u d : Nat} {r : List UInt8} (hu : hexk i u = r.take i) (hd : d < 16) (hr : r[i]? = some (hexd d)) : hexk (i + 1) (16 * u + d) = r.take (i + 1) := by
  rw [hexk_snoc, show (16 * u + d) / 16 = u by omega, show (16 * u + d) % 16 = d by omega, hu, List.take_add_one, hr]
  rfl
theorem digI_len17 {n : Int} (h : inRange n = true) : 1 ≤ (digI n).length ∧ (digI n).length ≤ 17 := by
  unfold inRange at h
  simp at h
  have h1 := dig_len 15 n.natAbs (by omega)
  have h2 : 0 < (dig n.natAbs).length := by
    cases hc : dig n.natAbs with
    | nil => exact absurd hc (dig_ne _)
    | cons c r => simp
  unfold digI
  split <;> first | omega | (simp; omega)
/-- A decimal text: not one of the words, not sixteen digits. -/
theorem dec_form {l : List UInt8} (h1 : l ≠ tNan) (h2 : l ≠ tInf) (h3 : l ≠ tNinf) (h4 : l ≠ tNz) (h5 : ¬ (l.length = 18 ∧ l.take 2 = [48, 120])) {v : Nat} (h : fParse l = some v) :
    ∃ n, inRange n = true ∧ fOfInt n = v ∧ l = digI n ++ [46] := by
  rcases parse_form h h1 h2 h3 h4 with h6 | ⟨_, h6⟩
  · exact h6
  · exact absurd ⟨by rw [h6]; simp [hexk_len], by rw [h6]; rfl⟩ h5
theorem dec_short {l : List UInt8} (h1 : l ≠ tNan) (h2 : l ≠ tInf) (h3 : l ≠ tNinf) (h4 : l ≠ tNz) (h5 : ¬ (l.length = 18 ∧ l.take 2 = [48, 120])) (h : l.length < 2 ∨ 18 < l.length ∨ ¬ l.getLast? = some 46) : fParse l = none := by
  cases hp : fParse l with
  | none => rfl
  | some v =>
    exfalso
    obtain ⟨n, hr, _, e⟩ := dec_form h1 h2 h3 h4 h5 hp
    have hl := digI_len17 hr
    rcases h with h | h | h
    · rw [e] at h; simp at h; omega
    · rw [e] at h; simp at h; omega
    · exact h (by rw [e]; simp)
/-- The digits behind a sign. -/
def decR (b : List UInt8) : List UInt8 := if b.head? = some 45 then b.tail else b
def decN (b : List UInt8) : Int := if b.head? = some 45 then -(val b.tail : Int) else (val b : Int)
theorem digI_head (n : Int) : (digI n).head? = some 45 ↔ n < 0 := by
  unfold digI
  by_cases h : n < 0
  · rw [if_pos h]; simp [h]
  · rw [if_neg h]
    constructor
    · intro hh
      exfalso
      have ha := dig_all n.natAbs n.natAbs (Nat.le_refl _)
      cases hc : dig n.natAbs with
      | nil => rw [hc] at hh; simp at hh
      | cons c r =>
        rw [hc] at hh ha
        simp at hh
        have := ha c (by simp)
        rw [hh] at this
        simp at this
    · intro hh; omega
theorem decR_digI (n : Int) : decR (digI n) = dig n.natAbs ∧ decN (digI n) = n := by
  unfold decR decN
  by_cases h : n < 0
  · rw [if_pos ((digI_head n).2 h), if_pos ((digI_head n).2 h)]
    have e : (digI n).tail = dig n.natAbs := by unfold digI; rw [if_pos h]; rfl
    rw [e, val_dig n.natAbs n.natAbs (Nat.le_refl _)]
    exact ⟨rfl, by omega⟩
  · rw [if_neg (fun hh => h ((digI_head n).1 hh)), if_neg (fun hh => h ((digI_head n).1 hh))]
    have e : digI n = dig n.natAbs := by unfold digI; rw [if_neg h]
    rw [e, val_dig n.natAbs n.natAbs (Nat.le_refl _)]
    exact ⟨rfl, by omega⟩
theorem dec_bad {l : List UInt8} (h1 : l ≠ tNan) (h2 : l ≠ tInf) (h3 : l ≠ tNinf) (h4 : l ≠ tNz) (h5 : ¬ (l.length = 18 ∧ l.take 2 = [48, 120])) {c : UInt8} (hc : c ∈ decR l.dropLast) (h : c.toNat < 48 ∨ 57 < c.toNat) : fParse l = none := by
  cases hp : fParse l with
  | none => rfl
  | some v =>
    exfalso
    obtain ⟨n, _, _, e⟩ := dec_form h1 h2 h3 h4 h5 hp
    rw [e, List.dropLast_concat, (decR_digI n).1] at hc
    have := dig_all n.natAbs n.natAbs (Nat.le_refl _) c hc
    omega
theorem dec_end {l : List UInt8} (h1 : l ≠ tNan) (h2 : l ≠ tInf) (h3 : l ≠ tNinf) (h4 : l ≠ tNz) (h5 : ¬ (l.length = 18 ∧ l.take 2 = [48, 120])) {n : Int} (hn : n = decN l.dropLast) :
    fParse l = if inRange n = true ∧ fPrint (fOfInt n) = l then some (fOfInt n) else none := by
  by_cases h : inRange n = true ∧ fPrint (fOfInt n) = l
  · rw [if_pos h]
    obtain ⟨hr, hp⟩ := h
    obtain ⟨a, b⟩ := fOfInt_lt hr
    have := fParse_print a
    rw [hp] at this
    rw [this]
    unfold fCanon; rw [b]; rfl
  · rw [if_neg h]
    cases hp : fParse l with
    | none => rfl
    | some v =>
      exfalso
      obtain ⟨m, hr, hf, e⟩ := dec_form h1 h2 h3 h4 h5 hp
      have hm : n = m := by rw [hn, e, List.dropLast_concat, (decR_digI m).2]
      subst hm
      exact h ⟨hr, by rw [hf]; exact (fParse_some hp).1⟩
end Go.Proofs.YtfjpnkchldjjmaaGreatDoor
