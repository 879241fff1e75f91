/- The texts and the bytes of values, plainly, and read again; no program. -/
import Derived.Test.YtfjpnkchldjjmaaGreatDoorVlMath
import Derived.Test.YtfjpnkchldjjmaaGreatDoorFlPars2
import Derived.Test.YtfjpnkchldjjmaaGreatDoorPkMath
namespace Go.Proofs.YtfjpnkchldjjmaaGreatDoor

def tNull : List UInt8 := [110, 117, 108, 108]
def tFalse : List UInt8 := [102, 97, 108, 115, 101]
def tTrue : List UInt8 := [116, 114, 117, 101]
/-- Bytes in hexadecimal, two digits each; and back. -/
def hex2 : List UInt8 → List UInt8
  | [] => []
  | c :: r => hexd (c.toNat / 16) :: hexd (c.toNat % 16) :: hex2 r
def unhex2 : List UInt8 → List UInt8
  | a :: b :: r => UInt8.ofNat (16 * hexv a + hexv b) :: unhex2 r
  | _ => []
theorem unhex2_hex2 : ∀ s, unhex2 (hex2 s) = s
  | [] => rfl
  | c :: r => by
    have hc := c.toNat_lt
    rw [hex2, unhex2, unhex2_hex2 r, hexv_hexd (by omega), hexv_hexd (by omega)]
    congr 1
    apply UInt8.toNat_inj.1
    simp
    omega
theorem hex2_len : ∀ s, (hex2 s).length = 2 * s.length
  | [] => rfl
  | c :: r => by rw [hex2]; simp [hex2_len r]; omega
/-- The text of a right value. -/
def vPrintR (v : Vl) : List UInt8 :=
  if vk v = 1 then digI (vn v) else if vk v = 2 then (if vn v = 1 then tTrue else tFalse) else if vk v = 3 then 120 :: hex2 (vs v) else if vk v = 4 then fPrint (vf v) else tNull
def vPrint (v : Vl) : List UInt8 := vPrintR (vRt v)
theorem digI_chars (n : Int) : ∀ c ∈ digI n, c = 45 ∨ (48 ≤ c.toNat ∧ c.toNat ≤ 57) := by
  intro c hc
  have h := dig_all n.natAbs n.natAbs (Nat.le_refl _)
  unfold digI at hc
  split at hc
  · rcases List.mem_cons.1 hc with h1 | h1
    · exact .inl h1
    · exact .inr (h c h1)
  · exact .inr (h c hc)
theorem digI_ne (n : Int) : digI n ≠ [] := by
  unfold digI
  split
  · simp
  · exact dig_ne _
theorem fPrint_mark {v : Nat} (hv : v < 18446744073709551616) : ∃ c ∈ fPrint v, c = 110 ∨ c = 105 ∨ c = 46 ∨ c = 120 := by
  rcases fPrint_form hv with (h | h | h | h) | ⟨n, _, _, h⟩ | ⟨_, h⟩
  · rw [h]; exact ⟨110, by decide, .inl rfl⟩
  · rw [h]; exact ⟨105, by decide, .inr (.inl rfl)⟩
  · rw [h]; exact ⟨105, by decide, .inr (.inl rfl)⟩
  · rw [h]; exact ⟨46, by decide, .inr (.inr (.inl rfl))⟩
  · rw [h]; exact ⟨46, by simp, .inr (.inr (.inl rfl))⟩
  · rw [h]; exact ⟨120, by simp, .inr (.inr (.inr rfl))⟩
theorem int_noFloat (n : Int) : fParse (digI n) = none := by
  cases h : fParse (digI n) with
  | none => rfl
  | some v =>
    exfalso
    obtain ⟨hp, _, hv⟩ := fParse_some h
    obtain ⟨c, hc, hm⟩ := fPrint_mark hv
    rw [hp] at hc
    have := digI_chars n c hc
    rcases hm with rfl | rfl | rfl | rfl <;> simp at this
theorem fPrint_head {v : Nat} (hv : v < 18446744073709551616) : fPrint v ≠ tNull ∧ fPrint v ≠ tFalse ∧ fPrint v ≠ tTrue ∧ (fPrint v).head? ≠ some 120 := by
  rcases fPrint_form hv with (h | h | h | h) | ⟨n, _, _, h⟩ | ⟨_, h⟩
  · rw [h]; decide
  · rw [h]; decide
  · rw [h]; decide
  · rw [h]; decide
  · rw [h]
    have hl : ∀ t : List UInt8, t.getLast? ≠ some 46 → digI n ++ [46] ≠ t := fun t ht e => ht (by rw [← e]; simp)
    refine ⟨hl _ (by decide), hl _ (by decide), hl _ (by decide), ?_⟩
    intro e
    cases hd : digI n with
    | nil => exact digI_ne n hd
    | cons c r =>
      rw [hd] at e
      simp at e
      have := digI_chars n c (by rw [hd]; simp)
      rw [e] at this
      simp at this
  · rw [h]
    refine ⟨?_, ?_, ?_, ?_⟩
    · unfold tNull; simp
    · unfold tFalse; simp
    · unfold tTrue; simp
    · simp
theorem digI_head_ne (n : Int) : digI n ≠ tNull ∧ digI n ≠ tFalse ∧ digI n ≠ tTrue ∧ (digI n).head? ≠ some 120 := by
  have hl : ∀ (t : List UInt8) (c : UInt8), c ∈ t → ¬ (c = 45 ∨ (48 ≤ c.toNat ∧ c.toNat ≤ 57)) → digI n ≠ t := fun t c ht hc e => hc (digI_chars n c (by rw [e]; exact ht))
  refine ⟨hl _ 110 (by decide) (by decide), hl _ 102 (by decide) (by decide), hl _ 116 (by decide) (by decide), ?_⟩
  intro e
  have := digI_chars n 120 (List.mem_of_mem_head? (by rw [e]; rfl))
  simp at this

/-- A text as a value, whatever it is: a left inverse of vPrintR. -/
def vz (l : List UInt8) : Vl :=
  if l = tNull then vNull else if l = tFalse then (2, 0, [], 0) else if l = tTrue then (2, 1, [], 0) else if l.head? = some 120 then (3, 0, unhex2 l.tail, 0)
  else match fParse l with
    | some u => (4, 0, [], u)
    | none => (1, decN l, [], 0)
theorem vz_print {v : Vl} (h : vRight v = true) (hf : vf v < 18446744073709551616) : vz (vPrintR v) = v := by
  rcases vRight_cases h with rfl | ⟨n, rfl⟩ | rfl | rfl | ⟨s, hs, rfl⟩ | ⟨f, hc, rfl⟩
  · decide
  · obtain ⟨h1, h2, h3, h4⟩ := digI_head_ne n
    show vz (digI n) = _
    unfold vz
    rw [if_neg h1, if_neg h2, if_neg h3, if_neg h4, int_noFloat]
    simp only
    rw [(decR_digI n).2]
  · decide
  · decide
  · show vz (120 :: hex2 s) = _
    unfold vz
    rw [if_neg (by unfold tNull; simp), if_neg (by unfold tFalse; simp), if_neg (by unfold tTrue; simp), if_pos (show (120 :: hex2 s).head? = some 120 from rfl)]
    show ((3 : Int), (0 : Int), unhex2 (hex2 s), 0) = _
    rw [unhex2_hex2]
  · obtain ⟨h1, h2, h3, h4⟩ := fPrint_head (v := f) hf
    show vz (fPrint f) = _
    unfold vz
    rw [if_neg h1, if_neg h2, if_neg h3, if_neg h4, fParse_print (v := f) hf]
    simp only
    rw [hc]
theorem vPrint_inj {a b : Vl} (ha : vRight a = true) (hb : vRight b = true) (fa : vf a < 18446744073709551616) (fb : vf b < 18446744073709551616) : vPrintR a = vPrintR b ↔ a = b :=
  ⟨fun h => by rw [← vz_print ha fa, h, vz_print hb fb], fun h => by rw [h]⟩
/-- The right value whose text it is. -/
def vParse (l : List UInt8) : Option Vl := if vRight (vz l) = true ∧ vPrintR (vz l) = l then some (vz l) else none
theorem vParse_print {v : Vl} (h : vRight v = true) (hf : vf v < 18446744073709551616) : vParse (vPrintR v) = some v := by
  unfold vParse
  rw [vz_print h hf, if_pos ⟨h, rfl⟩]
theorem vz_f (l : List UInt8) : vf (vz l) < 18446744073709551616 := by
  unfold vz
  split
  · decide
  split
  · decide
  split
  · decide
  split
  · exact (by decide : (0 : Nat) < 18446744073709551616)
  split
  · rename_i u hu
    exact (fParse_some hu).2.2
  · exact (by decide : (0 : Nat) < 18446744073709551616)
theorem vParse_some {l : List UInt8} {v : Vl} (h : vParse l = some v) : vRight v = true ∧ vPrintR v = l ∧ vf v < 18446744073709551616 := by
  unfold vParse at h
  by_cases hc : vRight (vz l) = true ∧ vPrintR (vz l) = l
  · rw [if_pos hc] at h
    injection h with h
    subst h
    exact ⟨hc.1, hc.2, vz_f l⟩
  · rw [if_neg hc] at h; cases h
theorem vParse_none {l : List UInt8} (h : vParse l = none) {v : Vl} (hv : vRight v = true) (hf : vf v < 18446744073709551616) : vPrintR v ≠ l := by
  intro e
  rw [← e, vParse_print hv hf] at h
  cases h

/-- Bytes of a number, the lowest first. -/
def leN : Nat → Nat → List UInt8
  | 0, _ => []
  | k + 1, u => UInt8.ofNat (u % 256) :: leN k (u / 256)
def unle : List UInt8 → Nat
  | [] => 0
  | c :: r => c.toNat + 256 * unle r
theorem leN_len : ∀ k u, (leN k u).length = k
  | 0, _ => rfl
  | k + 1, u => by rw [leN, List.length_cons, leN_len k]
theorem unle_leN : ∀ k u, unle (leN k u) = u % 256 ^ k
  | 0, u => by simp [leN, unle, Nat.mod_one]
  | k + 1, u => by
    rw [leN, unle, unle_leN k, Nat.pow_succ, Nat.mul_comm (256 ^ k) 256, Nat.mod_mul]
    simp
theorem e2568 : (256 : Nat) ^ 8 = 18446744073709551616 := by decide
/-- The bytes of a right value; the value that bytes begin with, and how many it has. -/
def vPutR (v : Vl) : List UInt8 :=
  UInt8.ofNat (vk v).toNat :: (if vk v = 1 then nat (fold (vn v)) else if vk v = 2 then [UInt8.ofNat (vn v).toNat] else if vk v = 3 then nat (vs v).length ++ vs v else if vk v = 4 then leN 8 (vf v) else [])
def vGet (l : List UInt8) : Option (Vl × Nat) :=
  match l with
  | [] => none
  | c :: r =>
    if c.toNat = 0 then some (vNull, 1)
    else if c.toNat = 1 then (if (rd r).2 = 0 then none else some ((1, unfold_ (rd r).1, [], 0), 1 + (rd r).2))
    else if c.toNat = 2 then (match r with
      | [] => none
      | b :: _ => if b.toNat ≤ 1 then some ((2, (b.toNat : Int), [], 0), 2) else none)
    else if c.toNat = 3 then (if (rd r).2 = 0 ∨ 64 < (rd r).1 ∨ r.length - (rd r).2 < (rd r).1 then none else some ((3, 0, (r.drop (rd r).2).take (rd r).1, 0), 1 + (rd r).2 + (rd r).1))
    else if c.toNat = 4 then (if r.length < 8 then none else if fCanon (unle (r.take 8)) = unle (r.take 8) then some ((4, 0, [], unle (r.take 8)), 9) else none)
    else none
theorem vGet_put {v : Vl} (h : vRight v = true) (hf : vf v < 18446744073709551616) (h1 : -9223372036854775808 ≤ vn v) (h2 : vn v ≤ 9223372036854775807) (r : List UInt8) : vGet (vPutR v ++ r) = some (v, (vPutR v).length) := by
  rcases vRight_cases h with rfl | ⟨n, rfl⟩ | rfl | rfl | ⟨s, hs, rfl⟩ | ⟨f, hc, rfl⟩
  · rfl
  · show vGet (1 :: (nat (fold n) ++ r)) = some (_, (1 :: nat (fold n)).length)
    have hr := rd_nat (fold n) r (fold_lt h1 h2)
    unfold vGet
    simp only
    rw [if_neg (by decide), if_pos (by decide), hr]
    simp only
    rw [if_neg (by have := nat_pos (fold n); omega), unfold_fold]
    simp [Nat.add_comm]
  · rfl
  · rfl
  · show vGet (3 :: ((nat s.length ++ s) ++ r)) = some (_, (3 :: (nat s.length ++ s)).length)
    have hr := rd_nat s.length (s ++ r) (by omega)
    rw [List.append_assoc]
    unfold vGet
    simp only
    rw [if_neg (by decide), if_neg (by decide), if_neg (by decide), if_pos (by decide), hr]
    simp only
    have hp := nat_pos s.length
    have hn : ¬ ((nat s.length).length = 0 ∨ 64 < s.length ∨ (nat s.length ++ (s ++ r)).length - (nat s.length).length < s.length) := by
      rw [List.length_append, List.length_append]; omega
    rw [if_neg hn]
    simp
    omega
  · show vGet (4 :: (leN 8 f ++ r)) = some (_, (4 :: leN 8 f).length)
    have ht : (leN 8 f ++ r).take 8 = leN 8 f := by rw [List.take_append_of_le_length (by rw [leN_len]; omega), List.take_of_length_le (by rw [leN_len]; omega)]
    have hu : unle (leN 8 f) = f := by rw [unle_leN, e2568]; exact Nat.mod_eq_of_lt hf
    unfold vGet
    simp only
    rw [if_neg (by decide), if_neg (by decide), if_neg (by decide), if_neg (by decide), if_pos (by decide), if_neg (by simp [leN_len]), ht, hu, if_pos hc]
    simp [leN_len]
theorem vPut_inj {a b : Vl} (ha : vRight a = true) (hb : vRight b = true) (fa : vf a < 18446744073709551616) (fb : vf b < 18446744073709551616) (a1 : -9223372036854775808 ≤ vn a) (a2 : vn a ≤ 9223372036854775807) (b1 : -9223372036854775808 ≤ vn b) (b2 : vn b ≤ 9223372036854775807) : vPutR a = vPutR b ↔ a = b := by
  constructor
  · intro h
    have e1 := vGet_put ha fa a1 a2 []
    have e2 := vGet_put hb fb b1 b2 []
    rw [h, e2] at e1
    injection e1 with e1
    exact (congrArg Prod.fst e1).symm
  · intro h; rw [h]
end Go.Proofs.YtfjpnkchldjjmaaGreatDoor
