/- Values of cells, plainly: which are right, how they compare, their order, their masks, three truths; no program. -/
import Derived.Test.YtfjpnkchldjjmaaGreatDoorFlMath
namespace Go.Proofs.YtfjpnkchldjjmaaGreatDoor

/-- A value: its kind, its number, its bytes, its float's bits. -/
abbrev Vl : Type := Int × Int × List UInt8 × Nat
def vk (v : Vl) : Int := v.1
def vn (v : Vl) : Int := v.2.1
def vs (v : Vl) : List UInt8 := v.2.2.1
def vf (v : Vl) : Nat := v.2.2.2
def vNull : Vl := (0, 0, [], 0)
def vRight (v : Vl) : Bool :=
  if vk v = 0 then vn v == 0 && vs v == [] && vf v == 0
  else if vk v = 1 then vs v == [] && vf v == 0
  else if vk v = 2 then vs v == [] && vf v == 0 && (vn v == 0 || vn v == 1)
  else if vk v = 3 then vn v == 0 && vf v == 0 && decide ((vs v).length ≤ 64)
  else if vk v = 4 then vn v == 0 && vs v == [] && fCanon (vf v) == vf v
  else false
/-- What a right value is. -/
theorem vRight_cases {v : Vl} (h : vRight v = true) : v = vNull ∨ (∃ n, v = (1, n, [], 0)) ∨ v = (2, 0, [], 0) ∨ v = (2, 1, [], 0) ∨ (∃ s, s.length ≤ 64 ∧ v = (3, 0, s, 0)) ∨ (∃ f, fCanon f = f ∧ v = (4, 0, [], f)) := by
  obtain ⟨k, n, s, f⟩ := v
  change (if k = 0 then n == 0 && s == [] && f == 0 else if k = 1 then s == [] && f == 0 else if k = 2 then s == [] && f == 0 && (n == 0 || n == 1) else if k = 3 then n == 0 && f == 0 && decide (s.length ≤ 64) else if k = 4 then n == 0 && s == [] && fCanon f == f else false) = true at h
  by_cases k0 : k = 0
  · rw [if_pos k0] at h; simp at h; subst k0; obtain ⟨⟨rfl, rfl⟩, rfl⟩ := h; exact .inl rfl
  rw [if_neg k0] at h
  by_cases k1 : k = 1
  · rw [if_pos k1] at h; simp at h; subst k1; obtain ⟨rfl, rfl⟩ := h; exact .inr (.inl ⟨n, rfl⟩)
  rw [if_neg k1] at h
  by_cases k2 : k = 2
  · rw [if_pos k2] at h; simp at h; subst k2; obtain ⟨⟨rfl, rfl⟩, h | h⟩ := h
    · subst h; exact .inr (.inr (.inl rfl))
    · subst h; exact .inr (.inr (.inr (.inl rfl)))
  rw [if_neg k2] at h
  by_cases k3 : k = 3
  · rw [if_pos k3] at h; simp at h; subst k3; obtain ⟨⟨rfl, rfl⟩, h⟩ := h; exact .inr (.inr (.inr (.inr (.inl ⟨s, h, rfl⟩))))
  rw [if_neg k3] at h
  by_cases k4 : k = 4
  · rw [if_pos k4] at h; simp at h; subst k4; obtain ⟨⟨rfl, rfl⟩, h⟩ := h; exact .inr (.inr (.inr (.inr (.inr ⟨f, h, rfl⟩))))
  rw [if_neg k4] at h
  cases h
theorem vRight_null : vRight vNull = true := by decide
theorem vRight_int (n : Int) : vRight (1, n, [], 0) = true := by unfold vRight; simp [vk, vs, vf]
theorem vRight_bool (b : Bool) : vRight (2, (if b then 1 else 0), [], 0) = true := by cases b <;> decide
theorem vRight_bytes {s : List UInt8} (h : s.length ≤ 64) : vRight (3, 0, s, 0) = true := by unfold vRight; simp [vk, vn, vs, vf, h]
theorem vRight_float {f : Nat} (h : fCanon f = f) : vRight (4, 0, [], f) = true := by unfold vRight; simp [vk, vn, vs, vf, h]
def vRt (v : Vl) : Vl := if vRight v then v else vNull
theorem vRt_right (v : Vl) : vRight (vRt v) = true := by
  unfold vRt
  split
  · assumption
  · decide
theorem vRt_of {v : Vl} (h : vRight v = true) : vRt v = v := by unfold vRt; rw [if_pos h]

/-- How two texts stand, byte by byte, a beginning ahead of the whole. -/
def tCmp : List UInt8 → List UInt8 → Int
  | [], [] => 0
  | [], _ :: _ => -1
  | _ :: _, [] => 1
  | a :: x, b :: y => if a.toNat < b.toNat then -1 else if b.toNat < a.toNat then 1 else tCmp x y
theorem tCmp_self : ∀ l, tCmp l l = 0
  | [] => rfl
  | a :: x => by rw [tCmp, if_neg (by omega), if_neg (by omega)]; exact tCmp_self x
theorem tCmp_cases : ∀ a b, tCmp a b = -1 ∨ tCmp a b = 0 ∨ tCmp a b = 1
  | [], [] => .inr (.inl rfl)
  | [], _ :: _ => .inl rfl
  | _ :: _, [] => .inr (.inr rfl)
  | a :: x, b :: y => by
    rw [tCmp]
    split
    · exact .inl rfl
    split
    · exact .inr (.inr rfl)
    · exact tCmp_cases x y
theorem tCmp_turn : ∀ a b, tCmp a b = - tCmp b a
  | [], [] => rfl
  | [], _ :: _ => rfl
  | _ :: _, [] => rfl
  | a :: x, b :: y => by
    have h := tCmp_turn x y
    rw [tCmp, tCmp]
    (repeat' split) <;> omega
theorem tCmp_zero : ∀ {a b : List UInt8}, tCmp a b = 0 ↔ a = b
  | [], [] => by simp [tCmp]
  | [], _ :: _ => by simp [tCmp]
  | _ :: _, [] => by simp [tCmp]
  | a :: x, b :: y => by
    have h := tCmp_zero (a := x) (b := y)
    rw [tCmp]
    constructor
    · intro h1
      split at h1
      · omega
      split at h1
      · omega
      · have e : a = b := UInt8.toNat_inj.1 (by omega)
        rw [e, h.1 h1]
    · intro h1
      injection h1 with h2 h3
      subst h2 h3
      rw [if_neg (by omega), if_neg (by omega)]
      exact tCmp_self _
theorem tCmp_trans : ∀ {a b c : List UInt8}, tCmp a b ≤ 0 → tCmp b c ≤ 0 → tCmp a c ≤ 0
  | [], _, [], _, _ => by simp [tCmp]
  | [], _, _ :: _, _, _ => by simp [tCmp]
  | _ :: _, [], _, h, _ => by simp [tCmp] at h
  | _ :: _, _ :: _, [], _, h => by simp [tCmp] at h
  | a :: x, b :: y, c :: z, h1, h2 => by
    have ih := tCmp_trans (a := x) (b := y) (c := z)
    rw [tCmp] at h1 h2 ⊢
    by_cases p1 : a.toNat < b.toNat
    · by_cases p2 : b.toNat < c.toNat
      · rw [if_pos (by omega)]; omega
      · rw [if_neg p2] at h2
        by_cases p3 : c.toNat < b.toNat
        · rw [if_pos p3] at h2; omega
        · rw [if_pos (by omega)]; omega
    · rw [if_neg p1] at h1
      by_cases p4 : b.toNat < a.toNat
      · rw [if_pos p4] at h1; omega
      · rw [if_neg p4] at h1
        by_cases p2 : b.toNat < c.toNat
        · rw [if_pos (by omega)]; omega
        · rw [if_neg p2] at h2
          by_cases p3 : c.toNat < b.toNat
          · rw [if_pos p3] at h2; omega
          · rw [if_neg p3] at h2
            rw [if_neg (by omega), if_neg (by omega)]
            exact ih h1 h2

/-- How two right values compare; their order. -/
def vCmpOkR (a b : Vl) : Bool := decide (vk a ≠ 0) && decide (vk a = vk b) && (decide (vk a ≠ 4) || fCmpOk (vf a) (vf b))
def vCmpR (a b : Vl) : Int :=
  if vk a = 0 ∨ vk a ≠ vk b then 0 else if vk a = 4 then fCmp (vf a) (vf b) else if vk a = 3 then tCmp (vs a) (vs b) else sgn (vn a - vn b)
def vOrdR (a b : Vl) : Int :=
  if vk a ≠ vk b then sgn (vk a - vk b) else if vk a = 4 then fOrd (vf a) (vf b) else if vk a = 3 then tCmp (vs a) (vs b) else if vk a = 0 then 0 else sgn (vn a - vn b)
def vCmpOk (a b : Vl) : Bool := vCmpOkR (vRt a) (vRt b)
def vCmp (a b : Vl) : Int := vCmpR (vRt a) (vRt b)
def vOrd (a b : Vl) : Int := vOrdR (vRt a) (vRt b)
theorem vOrd_turn (a b : Vl) : vOrdR a b = - vOrdR b a := by
  unfold vOrdR
  by_cases h : vk a = vk b
  · have e1 := fOrd_turn (vf a) (vf b)
    have e2 := tCmp_turn (vs a) (vs b)
    have e3 : sgn (vn a - vn b) = - sgn (vn b - vn a) := by rw [← sgn_neg]; congr 1; omega
    rw [if_neg (show ¬ vk a ≠ vk b from fun c => c h), if_neg (show ¬ vk b ≠ vk a from fun c => c h.symm), ← h]
    by_cases q1 : vk a = 4
    · rw [if_pos q1, if_pos q1]; exact e1
    rw [if_neg q1, if_neg q1]
    by_cases q2 : vk a = 3
    · rw [if_pos q2, if_pos q2]; exact e2
    rw [if_neg q2, if_neg q2]
    by_cases q3 : vk a = 0
    · rw [if_pos q3, if_pos q3]; rfl
    rw [if_neg q3, if_neg q3]; exact e3
  · rw [if_pos h, if_pos (fun e => h e.symm), ← sgn_neg]
    congr 1; omega
theorem sgn_tri {x y z : Int} (h1 : sgn (x - y) ≤ 0) (h2 : sgn (y - z) ≤ 0) : sgn (x - z) ≤ 0 := by rw [sgn_le] at *; omega
theorem vOrd_trans {a b c : Vl} (h1 : vOrdR a b ≤ 0) (h2 : vOrdR b c ≤ 0) : vOrdR a c ≤ 0 := by
  unfold vOrdR at *
  by_cases p1 : vk a = vk b
  · rw [if_neg (by simp [p1])] at h1
    by_cases p2 : vk b = vk c
    · rw [if_neg (by simp [p2])] at h2
      rw [if_neg (by rw [p1, p2]; simp)]
      rw [← p1] at h2
      by_cases q1 : vk a = 4
      · rw [if_pos q1] at *; exact fOrd_trans h1 h2
      rw [if_neg q1] at *
      by_cases q2 : vk a = 3
      · rw [if_pos q2] at *; exact tCmp_trans h1 h2
      rw [if_neg q2] at *
      by_cases q3 : vk a = 0
      · rw [if_pos q3]; omega
      rw [if_neg q3] at *
      exact sgn_tri h1 h2
    · rw [if_pos p2] at h2
      rw [if_pos (by rw [p1]; exact p2), p1]
      exact h2
  · rw [if_pos p1] at h1
    by_cases p2 : vk b = vk c
    · rw [if_pos (by rw [← p2]; exact p1), ← p2]; exact h1
    · rw [if_pos p2] at h2
      have h3 := sgn_tri h1 h2
      rw [sgn_le] at h1 h2 h3
      rw [if_pos (by omega), sgn_le]
      exact h3
theorem vOrd_zero {a b : Vl} (ha : vRight a = true) (hb : vRight b = true) (fa : vf a < 18446744073709551616) (fb : vf b < 18446744073709551616) : vOrdR a b = 0 ↔ a = b := by
  constructor
  · intro h
    unfold vOrdR at h
    by_cases p : vk a = vk b
    · rw [if_neg (by simp [p])] at h
      rcases vRight_cases ha with rfl | ⟨n, rfl⟩ | rfl | rfl | ⟨s, hs, rfl⟩ | ⟨f, hf, rfl⟩ <;> rcases vRight_cases hb with rfl | ⟨n', rfl⟩ | rfl | rfl | ⟨s', hs', rfl⟩ | ⟨f', hf', rfl⟩ <;> simp [vk, vn, vs, vf, vNull] at p h fa fb ⊢ <;> first | (rw [sgn_zero] at h; omega) | exact tCmp_zero.1 h | (exact absurd h (by decide)) | (have := (fOrd_zero fa fb).1 h; rw [hf, hf'] at this; exact this)
    · rw [if_pos p, sgn_zero] at h; omega
  · rintro rfl
    unfold vOrdR
    rw [if_neg (by simp)]
    have e1 := (fOrd_zero fa fa).2 rfl
    have e2 := tCmp_self (vs a)
    have e3 : sgn (vn a - vn a) = 0 := by rw [Int.sub_self]; rfl
    (repeat' split) <;> omega
theorem vCmp_ord {a b : Vl} (fa : vf a < 18446744073709551616) (fb : vf b < 18446744073709551616) (h : vCmpOkR a b = true) (h0 : vCmpR a b ≠ 0) : vOrdR a b = vCmpR a b := by
  unfold vCmpOkR at h
  simp at h
  obtain ⟨⟨h1, h2⟩, h3⟩ := h
  have e1 : vCmpR a b = if vk a = 4 then fCmp (vf a) (vf b) else if vk a = 3 then tCmp (vs a) (vs b) else sgn (vn a - vn b) := by
    unfold vCmpR; exact if_neg (fun c => c.elim h1 (fun c => c h2))
  have e2 : vOrdR a b = if vk a = 4 then fOrd (vf a) (vf b) else if vk a = 3 then tCmp (vs a) (vs b) else if vk a = 0 then 0 else sgn (vn a - vn b) := by
    unfold vOrdR; exact if_neg (fun c => c h2)
  rw [e1] at h0
  rw [e1, e2]
  by_cases q1 : vk a = 4
  · rw [if_pos q1] at h0
    rw [if_pos q1, if_pos q1]
    exact fOrd_cmp fa fb (h3.resolve_left (fun c => c q1)) h0
  · rw [if_neg q1, if_neg q1]
    by_cases q2 : vk a = 3
    · rw [if_pos q2, if_pos q2]
    · rw [if_neg q2, if_neg q2, if_neg h1]

/-- A value masked: kept (0), hidden (1), nought (2), its beginning (3). -/
def vMaskR (v : Vl) (mk mn : Int) : Vl :=
  if mk = 0 ∨ vk v = 0 then v else if mk = 2 then (vk v, 0, [], 0) else if mk ≠ 3 ∨ vk v ≠ 3 then vNull else (3, 0, (vs v).take mn.toNat, 0)
def vMask (v : Vl) (mk mn : Int) : Vl := vMaskR (vRt v) mk mn
theorem vMaskR_keep {v : Vl} {mk mn : Int} (h : mk = 0 ∨ vk v = 0) : vMaskR v mk mn = v := by unfold vMaskR; exact if_pos h
theorem vMaskR_nought {v : Vl} {mn : Int} (h : vk v ≠ 0) : vMaskR v 2 mn = (vk v, 0, [], 0) := by
  unfold vMaskR; rw [if_neg (fun c => c.elim (by decide) h), if_pos rfl]
theorem vMaskR_hide {v : Vl} {mk mn : Int} (h1 : ¬ (mk = 0 ∨ vk v = 0)) (h2 : ¬ mk = 2) (h3 : mk ≠ 3 ∨ vk v ≠ 3) : vMaskR v mk mn = vNull := by
  unfold vMaskR; rw [if_neg h1, if_neg h2, if_pos h3]
theorem vMaskR_head {v : Vl} {mn : Int} (h : vk v = 3) : vMaskR v 3 mn = (3, 0, (vs v).take mn.toNat, 0) := by
  unfold vMaskR; rw [if_neg (fun c => c.elim (by decide) (by rw [h]; decide)), if_neg (by decide), if_neg (fun c => c.elim (fun c => c rfl) (fun c => c h))]
theorem vMaskR_right {v : Vl} (h : vRight v = true) (mk mn : Int) : vRight (vMaskR v mk mn) = true := by
  by_cases h1 : mk = 0 ∨ vk v = 0
  · rw [vMaskR_keep h1]; exact h
  by_cases h2 : mk = 2
  · subst h2
    rw [vMaskR_nought (fun c => h1 (.inr c))]
    rcases vRight_cases h with rfl | ⟨n, rfl⟩ | rfl | rfl | ⟨s, hs, rfl⟩ | ⟨f, hf, rfl⟩
    · decide
    · exact vRight_int 0
    · decide
    · decide
    · exact vRight_bytes (s := []) (by decide)
    · exact vRight_float (f := 0) (by decide)
  by_cases h3 : mk ≠ 3 ∨ vk v ≠ 3
  · rw [vMaskR_hide h1 h2 h3]; decide
  have hm : mk = 3 := Decidable.not_not.1 (fun c => h3 (.inl c))
  have hv : vk v = 3 := Decidable.not_not.1 (fun c => h3 (.inr c))
  subst hm
  rw [vMaskR_head hv]
  apply vRight_bytes
  rcases vRight_cases h with rfl | ⟨n, rfl⟩ | rfl | rfl | ⟨s, hs, rfl⟩ | ⟨f, hf, rfl⟩
  · exact absurd hv (by decide)
  · exact absurd hv (by show ¬ (1 : Int) = 3; decide)
  · exact absurd hv (by decide)
  · exact absurd hv (by decide)
  · show (s.take _).length ≤ 64
    rw [List.length_take]; omega
  · exact absurd hv (by show ¬ (4 : Int) = 3; decide)
theorem vMaskR_twice (v : Vl) (mk mn : Int) : vMaskR (vMaskR v mk mn) mk mn = vMaskR v mk mn := by
  by_cases h1 : mk = 0 ∨ vk v = 0
  · rw [vMaskR_keep h1, vMaskR_keep h1]
  by_cases h2 : mk = 2
  · subst h2
    have hv : vk v ≠ 0 := fun c => h1 (.inr c)
    rw [vMaskR_nought hv, vMaskR_nought (v := (vk v, 0, [], 0)) hv]
    rfl
  by_cases h3 : mk ≠ 3 ∨ vk v ≠ 3
  · rw [vMaskR_hide h1 h2 h3, vMaskR_keep (.inr rfl)]
  have hm : mk = 3 := Decidable.not_not.1 (fun c => h3 (.inl c))
  have hv : vk v = 3 := Decidable.not_not.1 (fun c => h3 (.inr c))
  subst hm
  rw [vMaskR_head hv, vMaskR_head (v := (3, 0, (vs v).take mn.toNat, 0)) rfl]
  show ((3 : Int), (0 : Int), ((vs v).take mn.toNat).take mn.toNat, 0) = _
  rw [List.take_take, Nat.min_self]
theorem vHead_head (v : Vl) (a b : Int) (ha : 0 ≤ a) (hb : 0 ≤ b) : vMaskR (vMaskR v 3 a) 3 b = vMaskR v 3 (min a b) := by
  by_cases h1 : vk v = 0
  · rw [vMaskR_keep (.inr h1), vMaskR_keep (.inr h1), vMaskR_keep (.inr h1)]
  have h0 : ¬ ((3 : Int) = 0 ∨ vk v = 0) := fun c => c.elim (by decide) h1
  by_cases h3 : vk v = 3
  · rw [vMaskR_head h3, vMaskR_head h3, vMaskR_head (v := (3, 0, (vs v).take a.toNat, 0)) rfl]
    show ((3 : Int), (0 : Int), ((vs v).take a.toNat).take b.toNat, 0) = _
    rw [List.take_take, show (min a b).toNat = min b.toNat a.toNat by omega]
  · rw [vMaskR_hide h0 (by decide) (.inr h3), vMaskR_hide h0 (by decide) (.inr h3), vMaskR_keep (.inr rfl)]

/-- Three truths: 0 no, 1 yes, all others unknown (2). -/
def tNot (a : Int) : Int := if a = 0 then 1 else if a = 1 then 0 else 2
def tAnd (a b : Int) : Int := if a = 0 ∨ b = 0 then 0 else if a = 1 ∧ b = 1 then 1 else 2
def tOr (a b : Int) : Int := tNot (tAnd (tNot a) (tNot b))
theorem tAnd_assoc (a b c : Int) : tAnd a (tAnd b c) = tAnd (tAnd a b) c := by unfold tAnd; (repeat' split) <;> omega
theorem tAnd_or (a b c : Int) : tAnd a (tOr b c) = tOr (tAnd a b) (tAnd a c) := by
  unfold tOr tAnd tNot
  by_cases a0 : a = 0 <;> by_cases a1 : a = 1 <;> by_cases b0 : b = 0 <;> by_cases b1 : b = 1 <;> by_cases c0 : c = 0 <;> by_cases c1 : c = 1 <;> first | (exfalso; omega) | simp [a0, a1, b0, b1, c0, c1]
end Go.Proofs.YtfjpnkchldjjmaaGreatDoor
