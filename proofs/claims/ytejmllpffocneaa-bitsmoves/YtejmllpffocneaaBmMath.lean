/- Truths as bits, plainly: the bytes that they make, what is read again; of no program. Nothing is assumed. -/
import Derived.Test.YtejmllpffocneaaBase
namespace Go.Proofs.Ytejmllpffocneaa

/-- A byte by its bits, the lowest first. -/
def by8 (f : Nat → Bool) : Nat := (f 0).toNat + 2 * (f 1).toNat + 4 * (f 2).toNat + 8 * (f 3).toNat + 16 * (f 4).toNat + 32 * (f 5).toNat + 64 * (f 6).toNat + 128 * (f 7).toNat
def b8 (a b c d e f g h : Bool) : Nat := a.toNat + 2 * b.toNat + 4 * c.toNat + 8 * d.toNat + 16 * e.toNat + 32 * f.toNat + 64 * g.toNat + 128 * h.toNat
theorem by8_b8 (f : Nat → Bool) : by8 f = b8 (f 0) (f 1) (f 2) (f 3) (f 4) (f 5) (f 6) (f 7) := rfl
theorem by8_lt (f : Nat → Bool) : by8 f < 256 := by
  unfold by8
  have h (b : Bool) : b.toNat ≤ 1 := by cases b <;> decide
  have := h (f 0); have := h (f 1); have := h (f 2); have := h (f 3); have := h (f 4); have := h (f 5); have := h (f 6); have := h (f 7)
  omega
theorem by8_congr {f g : Nat → Bool} (h : ∀ t, t < 8 → f t = g t) : by8 f = by8 g := by
  unfold by8
  rw [h 0 (by omega), h 1 (by omega), h 2 (by omega), h 3 (by omega), h 4 (by omega), h 5 (by omega), h 6 (by omega), h 7 (by omega)]
/-- Bit t of a number. -/
def bt (x t : Nat) : Bool := x / 2 ^ t % 2 == 1
theorem b8_bt : ∀ a b c d e f g h : Bool, bt (b8 a b c d e f g h) 0 = a ∧ bt (b8 a b c d e f g h) 1 = b ∧ bt (b8 a b c d e f g h) 2 = c ∧ bt (b8 a b c d e f g h) 3 = d ∧ bt (b8 a b c d e f g h) 4 = e ∧ bt (b8 a b c d e f g h) 5 = f ∧ bt (b8 a b c d e f g h) 6 = g ∧ bt (b8 a b c d e f g h) 7 = h := by decide +kernel
theorem bt_by8 (f : Nat → Bool) {t : Nat} (ht : t < 8) : bt (by8 f) t = f t := by
  rw [by8_b8]
  obtain ⟨h0, h1, h2, h3, h4, h5, h6, h7⟩ := b8_bt (f 0) (f 1) (f 2) (f 3) (f 4) (f 5) (f 6) (f 7)
  match t, ht with
  | 0, _ => exact h0
  | 1, _ => exact h1
  | 2, _ => exact h2
  | 3, _ => exact h3
  | 4, _ => exact h4
  | 5, _ => exact h5
  | 6, _ => exact h6
  | 7, _ => exact h7
  | n + 8, h => omega
theorem by8_all : ∀ x : Fin 256, by8 (bt x.val) = x.val := by decide +kernel
theorem by8_bt {x : Nat} (h : x < 256) : by8 (bt x) = x := by8_all ⟨x, h⟩
theorem by8_inj {x y : Nat} (hx : x < 256) (hy : y < 256) (h : ∀ t, t < 8 → bt x t = bt y t) : x = y := by
  rw [← by8_bt hx, ← by8_bt hy]; exact by8_congr h
/-- The truth at a place; none is there: no. -/
def tr (l : List Bool) (i : Nat) : Bool := l[i]?.getD false
theorem tr_at {l : List Bool} {i : Nat} (h : i < l.length) : tr l i = l[i] := by unfold tr; rw [List.getElem?_eq_getElem h]; rfl
theorem tr_out {l : List Bool} {i : Nat} (h : l.length ≤ i) : tr l i = false := by unfold tr; rw [List.getElem?_eq_none h]; rfl
theorem tr_take (l : List Bool) (k i : Nat) : tr (l.take k) i = if i < k then tr l i else false := by
  unfold tr; rw [List.getElem?_take]; split <;> rfl
theorem tr_drop (l : List Bool) (k i : Nat) : tr (l.drop k) i = tr l (k + i) := by unfold tr; rw [List.getElem?_drop]
theorem tr_app (a b : List Bool) (i : Nat) : tr (a ++ b) i = if i < a.length then tr a i else tr b (i - a.length) := by
  unfold tr
  by_cases h : i < a.length
  · rw [if_pos h, List.getElem?_append_left h]
  · rw [if_neg h, List.getElem?_append_right (by omega)]
/-- Byte j of truths. -/
def pj (l : List Bool) (j : Nat) : UInt8 := UInt8.ofNat (by8 fun t => tr l (8 * j + t))
theorem pj_nat (l : List Bool) (j : Nat) : (pj l j).toNat = by8 fun t => tr l (8 * j + t) := by
  unfold pj; rw [UInt8.toNat_ofNat', Nat.mod_eq_of_lt (by8_lt _)]
def nby (n : Nat) : Nat := (n + 7) / 8
/-- The bytes of truths. -/
def bmP (l : List Bool) : List UInt8 := (List.range (nby l.length)).map (pj l)
theorem bmP_len (l : List Bool) : (bmP l).length = nby l.length := by simp [bmP]
theorem bmP_at {l : List Bool} {j : Nat} (h : j < (bmP l).length) : (bmP l)[j] = pj l j := by simp [bmP]
/-- Bit i of bytes; none is there: no. -/
def bi (b : List UInt8) (i : Nat) : Bool := match b[i / 8]? with
  | some c => bt c.toNat (i % 8)
  | none => false
theorem bi_bmP (l : List Bool) (i : Nat) : bi (bmP l) i = tr l i := by
  unfold bi
  by_cases h : i / 8 < (bmP l).length
  · rw [List.getElem?_eq_getElem h, bmP_at]
    show bt (pj l (i / 8)).toNat (i % 8) = _
    rw [pj_nat, bt_by8 _ (Nat.mod_lt _ (by omega))]
    show tr l (8 * (i / 8) + i % 8) = _
    rw [Nat.div_add_mod]
  · rw [List.getElem?_eq_none (by omega)]
    rw [bmP_len] at h
    show false = _
    rw [tr_out]
    unfold nby at h
    omega
/-- May these bytes be n truths? -/
def bgO (b : List UInt8) (n : Int) : Bool := decide (0 ≤ n ∧ b.length = nby n.toNat ∧ ∀ i, i < 8 * b.length → n.toNat ≤ i → bi b i = false)
/-- The truths of bytes. -/
def bgL (b : List UInt8) (n : Nat) : List Bool := (List.range n).map (bi b)
theorem bgL_len (b : List UInt8) (n : Nat) : (bgL b n).length = n := by simp [bgL]
theorem tr_bgL (b : List UInt8) (n i : Nat) : tr (bgL b n) i = if i < n then bi b i else false := by
  by_cases h : i < n
  · rw [if_pos h, tr_at (by rw [bgL_len]; exact h)]; simp [bgL]
  · rw [if_neg h, tr_out (by rw [bgL_len]; omega)]
theorem tr_ext {a b : List Bool} (hl : a.length = b.length) (h : ∀ i, i < a.length → tr a i = tr b i) : a = b :=
  List.ext_getElem hl fun i h1 h2 => by rw [← tr_at h1, ← tr_at h2]; exact h i h1
theorem bmP_ok (l : List Bool) : bgO (bmP l) (l.length : Int) = true ∧ bgL (bmP l) l.length = l := by
  refine ⟨?_, ?_⟩
  · refine decide_eq_true ⟨by omega, ?_, fun i _ hi => ?_⟩
    · rw [bmP_len]; rfl
    · rw [bi_bmP, tr_out (by omega)]
  · refine tr_ext (by rw [bgL_len]) fun i hi => ?_
    rw [bgL_len] at hi
    rw [tr_bgL, if_pos hi, bi_bmP]
theorem bgL_back {b : List UInt8} {n : Int} (h : bgO b n = true) : bmP (bgL b n.toNat) = b := by
  obtain ⟨h0, h1, h2⟩ := of_decide_eq_true h
  refine List.ext_getElem (by rw [bmP_len, bgL_len, h1]) fun j hj1 hj2 => ?_
  rw [bmP_at]
  apply UInt8.toNat_inj.1
  rw [pj_nat]
  refine by8_inj (by8_lt _) (UInt8.toNat_lt _) fun t ht => ?_
  rw [bt_by8 _ ht, tr_bgL]
  have hb : bi b (8 * j + t) = bt b[j].toNat t := by
    unfold bi
    rw [show (8 * j + t) / 8 = j by omega, show (8 * j + t) % 8 = t by omega, List.getElem?_eq_getElem hj2]
  split
  · exact hb
  · rw [← hb, h2 _ (by omega) (by omega)]
/-- How many of truths are so. -/
def ctr (l : List Bool) : Nat := (l.map Bool.toNat).sum
def c8 (f : Nat → Bool) : Nat := (f 0).toNat + (f 1).toNat + (f 2).toNat + (f 3).toNat + (f 4).toNat + (f 5).toNat + (f 6).toNat + (f 7).toNat
/-- How many bits are 1. -/
def bmC (b : List UInt8) : Nat := (b.map fun c => c8 (bt c.toNat)).sum
theorem bmC_snoc (b : List UInt8) (c : UInt8) : bmC (b ++ [c]) = bmC b + c8 (bt c.toNat) := by simp [bmC]
theorem bmC_app (a b : List UInt8) : bmC (a ++ b) = bmC a + bmC b := by simp [bmC]
theorem c8_le (f : Nat → Bool) : c8 f ≤ 8 := by
  unfold c8
  have h (b : Bool) : b.toNat ≤ 1 := by cases b <;> decide
  have := h (f 0); have := h (f 1); have := h (f 2); have := h (f 3); have := h (f 4); have := h (f 5); have := h (f 6); have := h (f 7)
  omega
theorem bmC_le (b : List UInt8) : bmC b ≤ 8 * b.length := by
  induction b with
  | nil => simp [bmC]
  | cons c b ih => have := c8_le (bt c.toNat); simp [bmC] at ih ⊢; omega
/-- Truths by eights. -/
theorem bmP_cons {l : List Bool} (h : l ≠ []) : bmP l = pj l 0 :: bmP (l.drop 8) := by
  have hl : 0 < l.length := List.length_pos_iff.2 h
  refine List.ext_getElem ?_ fun j h1 h2 => ?_
  · rw [List.length_cons, bmP_len, bmP_len, List.length_drop]; unfold nby; omega
  · rw [bmP_at]
    cases j with
    | zero => rfl
    | succ j =>
      rw [List.getElem_cons_succ, bmP_at]
      unfold pj
      congr 1
      refine by8_congr fun t _ => ?_
      rw [tr_drop]
      congr 1
      omega
theorem bmP_nil : bmP [] = [] := rfl
theorem ctr_drop (l : List Bool) (h : l ≠ []) : ctr l = c8 (fun t => tr l t) + ctr (l.drop 8) := by
  match l, h with
  | [a], _ => cases a <;> rfl
  | [a, b], _ => simp [ctr, c8, tr]
  | [a, b, c], _ => simp [ctr, c8, tr]; omega
  | [a, b, c, d], _ => simp [ctr, c8, tr]; omega
  | [a, b, c, d, e], _ => simp [ctr, c8, tr]; omega
  | [a, b, c, d, e, f], _ => simp [ctr, c8, tr]; omega
  | [a, b, c, d, e, f, g], _ => simp [ctr, c8, tr]; omega
  | a :: b :: c :: d :: e :: f :: g :: h :: l, _ => simp [ctr, c8, tr]; omega
theorem c8_congr {f g : Nat → Bool} (h : ∀ t, t < 8 → f t = g t) : c8 f = c8 g := by
  unfold c8
  rw [h 0 (by omega), h 1 (by omega), h 2 (by omega), h 3 (by omega), h 4 (by omega), h 5 (by omega), h 6 (by omega), h 7 (by omega)]
theorem bmC_bmP : ∀ (n : Nat) (l : List Bool), l.length ≤ n → bmC (bmP l) = ctr l
  | 0, l, h => by
    have : l = [] := List.eq_nil_of_length_eq_zero (by omega)
    subst this; rfl
  | n + 1, l, h => by
    by_cases h0 : l = []
    · subst h0; rfl
    have hl : 0 < l.length := List.length_pos_iff.2 h0
    rw [bmP_cons h0, ctr_drop l h0, ← bmC_bmP n (l.drop 8) (by rw [List.length_drop]; omega)]
    have : c8 (bt (pj l 0).toNat) = c8 fun t => tr l t := by
      refine c8_congr fun t ht => ?_
      rw [pj_nat, bt_by8 _ ht]
      show tr l (8 * 0 + t) = tr l t
      rw [Nat.mul_zero, Nat.zero_add]
    simp [bmC, this]
theorem ctr_snoc (l : List Bool) (x : Bool) : ctr (l ++ [x]) = ctr l + x.toNat := by simp [ctr]
theorem ctr_le (l : List Bool) : ctr l ≤ l.length := by
  induction l with
  | nil => simp [ctr]
  | cons c b ih => simp [ctr] at ih ⊢; have : c.toNat ≤ 1 := by { cases c <;> decide }; omega
theorem bmP_app {a : List Bool} (b : List Bool) (h : a.length % 8 = 0) : bmP (a ++ b) = bmP a ++ bmP b := by
  refine List.ext_getElem ?_ fun j h1 h2 => ?_
  · rw [List.length_append, bmP_len, bmP_len, bmP_len, List.length_append]; unfold nby; omega
  · rw [bmP_at]
    rw [bmP_len, List.length_append] at h1
    unfold nby at h1
    by_cases hj : j < (bmP a).length
    · rw [List.getElem_append_left hj, bmP_at]
      rw [bmP_len] at hj
      unfold nby at hj
      unfold pj
      congr 1
      refine by8_congr fun t ht => ?_
      rw [tr_app, if_pos (by omega)]
    · rw [List.getElem_append_right (by omega), bmP_at]
      rw [bmP_len] at hj ⊢
      unfold nby at hj ⊢
      unfold pj
      congr 1
      refine by8_congr fun t ht => ?_
      rw [tr_app, if_neg (by omega)]
      congr 1
      omega
/-- One truth more, at its byte. -/
theorem by8_set : ∀ a b c d e f g h : Bool, ∀ t : Fin 8, (if t.val = 0 then a else if t.val = 1 then b else if t.val = 2 then c else if t.val = 3 then d else if t.val = 4 then e else if t.val = 5 then f else if t.val = 6 then g else h) = false →
    (b8 a b c d e f g h) ||| 2 ^ t.val = b8 (if t.val = 0 then true else a) (if t.val = 1 then true else b) (if t.val = 2 then true else c) (if t.val = 3 then true else d) (if t.val = 4 then true else e) (if t.val = 5 then true else f) (if t.val = 6 then true else g) (if t.val = 7 then true else h) := by decide +kernel
theorem by8_or (f : Nat → Bool) {t : Nat} (ht : t < 8) (hf : f t = false) : by8 f ||| 2 ^ t = by8 fun u => if u = t then true else f u := by
  have h := by8_set (f 0) (f 1) (f 2) (f 3) (f 4) (f 5) (f 6) (f 7) ⟨t, ht⟩
  rw [by8_b8, by8_b8]
  match t, ht, hf, h with
  | 0, _, hf, h => exact h hf
  | 1, _, hf, h => exact h hf
  | 2, _, hf, h => exact h hf
  | 3, _, hf, h => exact h hf
  | 4, _, hf, h => exact h hf
  | 5, _, hf, h => exact h hf
  | 6, _, hf, h => exact h hf
  | 7, _, hf, h => exact h hf
  | n + 8, ht, _, _ => omega
/-- Truths put one by one: the bytes of n truths of which the first k are told. -/
def bmK (l : List Bool) (k : Nat) : List UInt8 := (List.range (nby l.length)).map (pj (l.take k))
theorem bmK_zero (l : List Bool) : bmK l 0 = List.replicate (nby l.length) 0 := by
  refine List.ext_getElem (by simp [bmK]) fun j h1 h2 => ?_
  simp [bmK, pj, tr, by8]
theorem bmK_all (l : List Bool) : bmK l l.length = bmP l := by unfold bmK bmP; rw [List.take_length]
theorem bmK_len (l : List Bool) (k : Nat) : (bmK l k).length = nby l.length := by simp [bmK]
theorem bmK_no {l : List Bool} {k : Nat} (hk : k < l.length) (h : l[k] = false) : bmK l (k + 1) = bmK l k := by
  refine List.ext_getElem (by simp [bmK]) fun j h1 h2 => ?_
  simp only [bmK, List.getElem_map, List.getElem_range]
  unfold pj
  congr 1
  refine by8_congr fun t _ => ?_
  rw [tr_take, tr_take]
  by_cases h3 : 8 * j + t < k
  · rw [if_pos h3, if_pos (by omega)]
  · rw [if_neg h3]
    by_cases h4 : 8 * j + t = k
    · rw [if_pos (by omega), h4, tr_at hk, h]
    · rw [if_neg (by omega)]
theorem bmK_yes {l : List Bool} {k : Nat} (hk : k < l.length) (h : l[k] = true) (hj : k / 8 < (bmK l k).length) : bmK l (k + 1) = (bmK l k).set (k / 8) (UInt8.ofNat ((bmK l k)[k / 8].toNat ||| 2 ^ (k % 8))) := by
  refine List.ext_getElem (by simp [bmK]) fun j h1 h2 => ?_
  rw [List.getElem_set]
  have hb : by8 (fun t => tr (l.take k) (8 * (k / 8) + t)) ||| 2 ^ (k % 8) = by8 (fun t => tr (l.take (k + 1)) (8 * (k / 8) + t)) := by
    rw [by8_or _ (Nat.mod_lt _ (by omega)) (by show tr (l.take k) (8 * (k / 8) + k % 8) = false; rw [Nat.div_add_mod, tr_take, if_neg (by omega)])]
    refine by8_congr fun t ht => ?_
    rw [tr_take, tr_take]
    by_cases h3 : t = k % 8
    · rw [if_pos h3, h3, Nat.div_add_mod, if_pos (by omega), tr_at hk, h]
    · rw [if_neg h3]
      by_cases h4 : 8 * (k / 8) + t < k
      · rw [if_pos h4, if_pos (by omega)]
      · rw [if_neg h4, if_neg (by omega)]
  by_cases h3 : k / 8 = j
  · rw [if_pos h3]
    subst h3
    have e1 : (bmK l k)[k / 8].toNat = by8 fun t => tr (l.take k) (8 * (k / 8) + t) := by
      simp only [bmK, List.getElem_map, List.getElem_range]; exact pj_nat _ _
    rw [e1, hb]
    simp only [bmK, List.getElem_map, List.getElem_range]
    rfl
  · rw [if_neg h3]
    simp only [bmK, List.getElem_map, List.getElem_range]
    unfold pj
    congr 1
    refine by8_congr fun t _ => ?_
    rw [tr_take, tr_take]
    by_cases h5 : 8 * j + t < k
    · rw [if_pos h5, if_pos (by omega)]
    · rw [if_neg h5, if_neg (by omega)]
end Go.Proofs.Ytejmllpffocneaa
