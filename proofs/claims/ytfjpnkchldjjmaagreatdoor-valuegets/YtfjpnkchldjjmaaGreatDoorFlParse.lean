/- Which texts are a float, plainly: what the program reads, and what it is when it must print the same; no program. -/
import Derived.Test.YtfjpnkchldjjmaaGreatDoorFlText
import Derived.Test.YtfjpnkchldjjmaaGreatDoorFlHex
import Derived.Lib.Strings
import Derived.Lib.AtoiTie
namespace Go.Proofs.YtfjpnkchldjjmaaGreatDoor

def px (l : List UInt8) : Option Nat := if l = [] then none else hx l 0
theorem hx_lt : ∀ (l : List UInt8) (n v : Nat), n < 18446744073709551616 → hx l n = some v → v < 18446744073709551616
  | [], n, v, hn, h => by rw [hx_nil] at h; injection h with h; omega
  | c :: r, n, v, hn, h => by
    cases ho : hexo c with
    | none => rw [hx_bad ho] at h; cases h
    | some d =>
      by_cases h2 : n < 1152921504606846976
      · rw [hx_one ho h2] at h
        exact hx_lt r _ v (by have := hexo_lt ho; omega) h
      · rw [hx_big ho h2] at h; cases h
theorem px_lt {l : List UInt8} {v : Nat} (h : px l = some v) : v < 18446744073709551616 := by
  unfold px at h
  split at h
  · cases h
  · exact hx_lt l 0 v (by omega) h
theorem px_hexk {u : Nat} (hu : u < 18446744073709551616) : px (hexk 16 u) = some u := by
  have e : (16 : Nat) ^ 16 = 18446744073709551616 := by decide
  have h := hx_hexk 16 u 0 (by rw [e, Nat.mod_eq_of_lt hu]; omega)
  unfold px
  rw [if_neg (by intro h; have := congrArg List.length h; rw [hexk_len] at this; simp at this), h, e, Nat.mod_eq_of_lt hu]
  simp

/-- The number that digits are, as Go's library reads them. -/
def atOk : Lib.NumEnd Int → Option Int
  | .ok v => some v
  | _ => none
theorem dec_all : ∀ (l : List UInt8) (acc : Nat), (∀ c ∈ l, 48 ≤ c.toNat ∧ c.toNat ≤ 57) → Lib.decFrom acc l = some (l.foldl (fun a c => 10 * a + (c.toNat - 48)) acc)
  | [], acc, _ => rfl
  | c :: r, acc, h => by
    have hc := h c (by simp)
    have e : Lib.digitVal c = some (c.toNat - 48) := by unfold Lib.digitVal; rw [if_pos hc]
    simp only [Lib.decFrom, e, List.foldl_cons]
    rw [Nat.mul_comm acc 10]
    exact dec_all r _ fun d hd => h d (by simp [hd])
theorem decNat_dig (n : Nat) : Lib.decNat (dig n) = some n := by
  have h := dec_all (dig n) 0 (dig_all n n (Nat.le_refl _))
  have hv : (dig n).foldl (fun a c => 10 * a + (c.toNat - 48)) 0 = n := val_dig n n (Nat.le_refl _)
  rw [hv] at h
  unfold Lib.decNat
  rw [if_neg (by simp [dig_ne]), h]
theorem dig_len17 {n : Nat} (h : n ≤ 9007199254740992) : (dig n).length ≤ 17 := dig_len 16 n (by omega)
theorem atoi_digI {n : Int} (h : inRange n = true) : atOk (Lib.atoiAll (digI n)) = some n := by
  unfold inRange at h
  simp at h
  have hl := dig_len17 (n := n.natAbs) (by omega)
  have hd := decNat_dig n.natAbs
  have hs : (digI n).length ≤ 18 := by unfold digI; split <;> first | omega | (simp; omega)
  rw [Lib.atoiAll_short _ hs]
  have key : Lib.atoi (digI n) = some n := by
    unfold digI
    by_cases hn : n < 0
    · rw [if_pos hn]
      simp only [Lib.atoi, beq_self_eq_true, if_true, hd, Option.map_some]
      congr 1; omega
    · rw [if_neg hn]
      have ha := dig_all n.natAbs n.natAbs (Nat.le_refl _)
      cases hc : dig n.natAbs with
      | nil => exact absurd hc (dig_ne _)
      | cons c r =>
        have hcc := ha c (by rw [hc]; simp)
        have h1 : (c == 45) = false := by
          rw [beq_eq_false_iff_ne]; intro e; rw [e] at hcc; simp at hcc
        have h2 : (c == 43) = false := by
          rw [beq_eq_false_iff_ne]; intro e; rw [e] at hcc; simp at hcc
        rw [hc] at hd
        simp only [Lib.atoi, h1, h2, Bool.false_eq_true, if_false, hd, Option.map_some]
        congr 1; omega
  rw [key]
  rfl

/-- What the program's reader makes of a text. -/
def frd (l : List UInt8) : Option Nat :=
  if l = tNan then some 9221120237041090560 else if l = tInf then some 9218868437227405312 else if l = tNinf then some 18442240474082181120 else if l = tNz then some 9223372036854775808
  else if Lib.hasPrefix l [48, 120] then px (Lib.trimPrefix l [48, 120])
  else if Lib.hasSuffix l [46] then (match atOk (Lib.atoiAll (Lib.trimSuffix l [46])) with | some n => if inRange n then some (fOfInt n) else none | none => none)
  else none
theorem frd_lt {l : List UInt8} {u : Nat} (h : frd l = some u) : u < 18446744073709551616 := by
  unfold frd at h
  split at h
  · injection h with h; omega
  split at h
  · injection h with h; omega
  split at h
  · injection h with h; omega
  split at h
  · injection h with h; omega
  split at h
  · exact px_lt h
  split at h
  · split at h
    · rename_i n _
      by_cases hr : inRange n = true
      · rw [if_pos hr] at h; injection h with h; have := (fOfInt_lt hr).1; omega
      · rw [if_neg hr] at h; cases h
    · cases h
  · cases h
theorem frd_print {v : Nat} (hv : v < 18446744073709551616) : frd (fPrint v) = some (fCanon v) := by
  by_cases hn : fNan v = true
  · have h1 : fPrint v = tNan := by unfold fPrint; rw [hn]; rfl
    rw [h1]
    unfold frd fCanon
    rw [if_pos rfl, hn]; rfl
  have hn' : fNan v = false := by simpa using hn
  have hc : fCanon v = v := by unfold fCanon; rw [hn']; rfl
  rw [hc]
  unfold fPrint
  rw [hn']
  simp only [Bool.false_eq_true, if_false]
  by_cases h1 : v = 9218868437227405312
  · rw [if_pos h1, h1]; decide
  rw [if_neg h1]
  by_cases h2 : v = 18442240474082181120
  · rw [if_pos h2, h2]; decide
  rw [if_neg h2]
  by_cases h3 : v = 9223372036854775808
  · rw [if_pos h3, h3]; decide
  rw [if_neg h3]
  cases hw : fWhole v with
  | some n =>
    obtain ⟨hr, hf⟩ := fWhole_some hv hw
    have hf : fOfInt n = v := by
      rcases hf with h | h
      · exact h
      · exact absurd h.1 h3
    obtain ⟨t1, t2, t3, t4⟩ := whole_text (n := n)
    have hpre : Lib.hasPrefix (digI n ++ [46]) [48, 120] = false := by
      rw [← Bool.not_eq_true]
      intro hp
      unfold Lib.hasPrefix at hp
      rcases digI_form n with ⟨c, l, e, _, _, hl⟩ | ⟨c, l, e, _, _, _⟩
      · rw [e] at hp
        cases l with
        | nil => simp [List.isPrefixOf] at hp
        | cons d r =>
          have := hl d (by simp)
          simp [List.isPrefixOf] at hp
          rw [← hp.2] at this
          simp at this
      · rw [e] at hp
        simp [List.isPrefixOf] at hp
    have hsuf : Lib.hasSuffix (digI n ++ [46]) [46] = true := by
      unfold Lib.hasSuffix
      rw [List.isSuffixOf_iff_suffix]
      exact List.suffix_append _ _
    have htr : Lib.trimSuffix (digI n ++ [46]) [46] = digI n := by
      unfold Lib.trimSuffix
      rw [hsuf]
      simp
    show frd (digI n ++ [46]) = some v
    unfold frd
    rw [if_neg t1, if_neg t2, if_neg t3, if_neg t4, hpre, if_neg (by decide), hsuf, if_pos rfl, htr, atoi_digI hr]
    simp only
    rw [if_pos hr, hf]
  | none =>
    show frd (48 :: 120 :: hexk 16 v) = some v
    have hpre : Lib.hasPrefix (48 :: 120 :: hexk 16 v) [48, 120] = true := by simp [Lib.hasPrefix, List.isPrefixOf]
    have htr : Lib.trimPrefix (48 :: 120 :: hexk 16 v) [48, 120] = hexk 16 v := by unfold Lib.trimPrefix; rw [hpre]; rfl
    unfold frd
    rw [if_neg (by unfold tNan; simp), if_neg (by unfold tInf; simp), if_neg (by unfold tNinf; simp), if_neg (by unfold tNz; simp), hpre, if_pos rfl, htr, px_hexk hv]

/-- The canonical float whose text it is. -/
def fParse (l : List UInt8) : Option Nat := match frd l with | some u => if fPrint u = l then some u else none | none => none
theorem fParse_print {v : Nat} (hv : v < 18446744073709551616) : fParse (fPrint v) = some (fCanon v) := by
  unfold fParse
  rw [frd_print hv]
  simp only
  rw [fPrint_canon, if_pos rfl]
theorem fParse_some {l : List UInt8} {u : Nat} (h : fParse l = some u) : fPrint u = l ∧ fCanon u = u ∧ u < 18446744073709551616 := by
  unfold fParse at h
  cases hr : frd l with
  | none => rw [hr] at h; cases h
  | some v =>
    rw [hr] at h
    simp only at h
    by_cases hp : fPrint v = l
    · rw [if_pos hp] at h
      injection h with h
      subst h
      have hl := frd_lt hr
      refine ⟨hp, ?_, hl⟩
      have := frd_print hl
      rw [hp, hr] at this
      injection this with this
      exact this.symm
    · rw [if_neg hp] at h; cases h
theorem fParse_none {l : List UInt8} (h : fParse l = none) {v : Nat} (hv : v < 18446744073709551616) : fPrint v ≠ l := by
  intro e
  rw [← e, fParse_print hv] at h
  cases h
end Go.Proofs.YtfjpnkchldjjmaaGreatDoor
