/- Decimal texts as Go's library reads them, over all ints, plainly; and what a value is whose text begins so or so; no program. -/
import Derived.Test.YtfjpnkchldjjmaaGreatDoorVlText
import Derived.Test.YtfjpnkchldjjmaaGreatDoorVlMath2
import Derived.Lib.AtoiAllCases
namespace Go.Proofs.YtfjpnkchldjjmaaGreatDoor
open Go.RowKit

theorem pu_app : ∀ (l : List UInt8) (acc m : Nat) (c : UInt8), Lib.parseUint10 acc l = .ok m → Lib.parseUint10 acc (l ++ [c]) = Lib.parseUint10 m [c]
  | [], acc, m, c, h => by
    simp only [Lib.parseUint10] at h
    injection h with h
    rw [h]; rfl
  | b :: r, acc, m, c, h => by
    rw [List.cons_append, Lib.parseUint10]
    rw [Lib.parseUint10] at h
    split at h
    · rename_i h1
      split at h
      · cases h
      · rename_i h2
        split at h
        · cases h
        · rename_i h3
          rw [if_pos h1, if_neg h2, if_neg h3]
          exact pu_app r _ m c h
    · cases h
theorem pu_dig : ∀ (B n : Nat), n ≤ B → n < 18446744073709551616 → Lib.parseUint10 0 (dig n) = .ok n := by
  intro B
  induction B with
  | zero => intro n h _; have : n = 0 := by omega
            subst this; rw [dig_small (by omega)]; rfl
  | succ B ih =>
    intro n h hl
    by_cases hs : n < 10
    · rw [dig_small hs, Lib.parseUint10, dig_char n hs, if_pos (by omega), if_neg (by omega), if_neg (by omega), Lib.parseUint10]
      congr 1; omega
    · rw [dig_big hs, pu_app _ _ _ _ (ih (n / 10) (by omega) (by omega)), Lib.parseUint10, dig_char (n % 10) (by omega), if_pos (by omega), if_neg (by omega), if_neg (by omega), Lib.parseUint10]
      congr 1; omega
theorem pu_all : ∀ (l : List UInt8) (acc u : Nat), Lib.parseUint10 acc l = .ok u → ∀ c ∈ l, 48 ≤ c.toNat ∧ c.toNat ≤ 57
  | [], _, _, _, c, hc => by cases hc
  | b :: r, acc, u, h, c, hc => by
    rw [Lib.parseUint10] at h
    split at h
    · rename_i h1
      split at h
      · cases h
      · split at h
        · cases h
        · rcases List.mem_cons.1 hc with rfl | hc
          · exact h1
          · exact pu_all r _ u h c hc
    · cases h
theorem pm_dig {n : Nat} (h : n < 18446744073709551616) : Lib.parseMag (dig n) = .ok n := by
  unfold Lib.parseMag
  rw [if_neg (dig_ne n)]
  exact pu_dig n n (Nat.le_refl _) h
theorem atoi_int {n : Int} (h1 : -9223372036854775808 ≤ n) (h2 : n ≤ 9223372036854775807) : Lib.atoiAll (digI n) = .ok n := by
  have hp := pm_dig (n := n.natAbs) (by omega)
  unfold digI
  by_cases hn : n < 0
  · rw [if_pos hn, Lib.atoiAll_minus, hp]
    simp only [Lib.signed]
    rw [if_neg (by omega)]
    congr 1; omega
  · rw [if_neg hn]
    have ha := dig_all n.natAbs n.natAbs (Nat.le_refl _)
    cases hc : dig n.natAbs with
    | nil => exact absurd hc (dig_ne _)
    | cons c r =>
      have hcc := ha c (by rw [hc]; simp)
      rw [hc] at hp
      rw [Lib.atoiAll_plain c r (by omega) (by omega), hp]
      simp only [Lib.signless]
      rw [if_neg (by omega)]
      congr 1; omega
theorem pm_all {l : List UInt8} {u : Nat} (h : Lib.parseMag l = .ok u) : ∀ c ∈ l, 48 ≤ c.toNat ∧ c.toNat ≤ 57 := by
  unfold Lib.parseMag at h
  split at h
  · cases h
  · exact pu_all l 0 u h
theorem sl_ok {x : Lib.NumEnd Nat} {n : Int} (h : Lib.signless x = .ok n) : ∃ u, x = .ok u := by
  cases x with
  | ok u => exact ⟨u, rfl⟩
  | _ => cases h
theorem sg_ok {x : Lib.NumEnd Nat} {n : Int} (h : Lib.signed x = .ok n) : ∃ u, x = .ok u := by
  cases x with
  | ok u => exact ⟨u, rfl⟩
  | _ => cases h
theorem atoi_chars {l : List UInt8} {n : Int} (h : Lib.atoiAll l = .ok n) : ∀ c ∈ l, c.toNat = 43 ∨ c.toNat = 45 ∨ (48 ≤ c.toNat ∧ c.toNat ≤ 57) := by
  intro c hc
  cases l with
  | nil => cases hc
  | cons b r =>
    by_cases h43 : b = 43
    · subst h43
      rw [Lib.atoiAll_plus] at h
      obtain ⟨u, hu⟩ := sl_ok h
      rcases List.mem_cons.1 hc with rfl | hc
      · exact .inl rfl
      · exact .inr (.inr (pm_all hu c hc))
    by_cases h45 : b = 45
    · subst h45
      rw [Lib.atoiAll_minus] at h
      obtain ⟨u, hu⟩ := sg_ok h
      rcases List.mem_cons.1 hc with rfl | hc
      · exact .inr (.inl rfl)
      · exact .inr (.inr (pm_all hu c hc))
    · rw [Lib.atoiAll_plain b r (fun e => h43 (UInt8.toNat_inj.1 e)) (fun e => h45 (UInt8.toNat_inj.1 e))] at h
      obtain ⟨u, hu⟩ := sl_ok h
      exact .inr (.inr (pm_all hu c hc))
theorem atoi_float {v : Nat} (hv : v < 18446744073709551616) {n : Int} : Lib.atoiAll (fPrint v) ≠ .ok n := by
  intro h
  obtain ⟨c, hc, hm⟩ := fPrint_mark hv
  have := atoi_chars h c hc
  rcases hm with rfl | rfl | rfl | rfl <;> simp at this

/-- What reading a text must give: a value, and whether there is one. -/
def VR (l : List UInt8) (v : Vl) (ok : Bool) : Prop :=
  vf v < 18446744073709551616 ∧ -9223372036854775808 ≤ vn v ∧ vn v ≤ 9223372036854775807 ∧ (ok = true → vRight v = true) ∧
  ∀ u, vRight u = true → vf u < 18446744073709551616 → -9223372036854775808 ≤ vn u → vn u ≤ 9223372036854775807 → vPrintR u = l → ok = true ∧ v = u
theorem vr_word {l : List UInt8} {v : Vl} (hr : vRight v = true) (hf : vf v = 0) (hn : vn v = 0 ∨ vn v = 1) (hp : vPrintR v = l) : VR l v true :=
  ⟨by omega, by omega, by omega, fun _ => hr, fun u hu fu _ _ e => ⟨rfl, (vPrint_inj hr hu (by omega) fu).1 (hp.trans e.symm)⟩⟩
theorem x_only {u : Vl} {m : List UInt8} (hu : vRight u = true) (fu : vf u < 18446744073709551616) (h : vPrintR u = 120 :: m) : ∃ s, s.length ≤ 64 ∧ u = (3, 0, s, 0) ∧ hex2 s = m := by
  rcases vRight_cases hu with rfl | ⟨n, rfl⟩ | rfl | rfl | ⟨s, hs, rfl⟩ | ⟨f, hc, rfl⟩
  · exact absurd h (by show tNull ≠ _; unfold tNull; simp)
  · exact absurd (show (digI n).head? = some 120 by rw [show digI n = 120 :: m from h]; rfl) (digI_head_ne n).2.2.2
  · exact absurd h (by show tFalse ≠ _; unfold tFalse; simp)
  · exact absurd h (by show tTrue ≠ _; unfold tTrue; simp)
  · refine ⟨s, hs, rfl, ?_⟩
    have h2 : 120 :: hex2 s = 120 :: m := h
    injection h2
  · exact absurd (show (fPrint f).head? = some 120 by rw [show fPrint f = 120 :: m from h]; rfl) (fPrint_head (v := f) fu).2.2.2
theorem vr_bytes {m b : List UInt8} (h1 : hex2 b = m) (h2 : b.length ≤ 64) : VR (120 :: m) (3, 0, b, 0) true :=
  ⟨by show (0 : Nat) < _; decide, by show (_ : Int) ≤ 0; decide, by show (0 : Int) ≤ _; decide, fun _ => vRight_bytes h2, fun u hu fu _ _ e => by
    obtain ⟨s, _, rfl, h3⟩ := x_only hu fu e
    refine ⟨rfl, ?_⟩
    rw [← unhex2_hex2 b, h1, ← h3, unhex2_hex2]⟩
theorem vr_nobytes {m : List UInt8} (h : ∀ s, s.length ≤ 64 → hex2 s ≠ m) : VR (120 :: m) (3, 0, [], 0) false :=
  ⟨by show (0 : Nat) < _; decide, by show (_ : Int) ≤ 0; decide, by show (0 : Int) ≤ _; decide, (fun h => by cases h), fun u hu fu _ _ e => by
    obtain ⟨s, hs, rfl, h3⟩ := x_only hu fu e
    exact absurd h3 (h s hs)⟩
theorem other {l : List UInt8} {u : Vl} (h1 : l ≠ tNull) (h2 : l ≠ tFalse) (h3 : l ≠ tTrue) (h4 : l.head? ≠ some 120) (hu : vRight u = true) (e : vPrintR u = l) : (∃ n, u = (1, n, [], 0) ∧ l = digI n) ∨ (∃ f, fCanon f = f ∧ u = (4, 0, [], f) ∧ l = fPrint f) := by
  rcases vRight_cases hu with rfl | ⟨n, rfl⟩ | rfl | rfl | ⟨s, hs, rfl⟩ | ⟨f, hc, rfl⟩
  · exact absurd e.symm h1
  · exact .inl ⟨n, rfl, e.symm⟩
  · exact absurd e.symm h2
  · exact absurd e.symm h3
  · exact absurd (show l.head? = some 120 by rw [← e]; rfl) h4
  · exact .inr ⟨f, hc, rfl, e.symm⟩
theorem vr_int {l : List UInt8} {n : Int} (h1 : l ≠ tNull) (h2 : l ≠ tFalse) (h3 : l ≠ tTrue) (h4 : l.head? ≠ some 120) (h : Lib.atoiAll l = .ok n) : VR l (1, n, [], 0) true :=
  ⟨by show (0 : Nat) < _; decide, (Lib.atoiAll_bounds h).1, (Lib.atoiAll_bounds h).2, fun _ => vRight_int n, fun u hu fu n1 n2 e => by
    rcases other h1 h2 h3 h4 hu e with ⟨m, rfl, rfl⟩ | ⟨f, _, rfl, rfl⟩
    · rw [atoi_int (n := m) n1 n2] at h
      injection h with h
      exact ⟨rfl, by show ((1 : Int), n, ([] : List UInt8), 0) = (1, m, [], 0); rw [← h]⟩
    · exact absurd h (atoi_float (v := f) fu)⟩
theorem vr_float {l : List UInt8} (h1 : l ≠ tNull) (h2 : l ≠ tFalse) (h3 : l ≠ tTrue) (h4 : l.head? ≠ some 120) (h : ∀ n, Lib.atoiAll l ≠ .ok n) : VR l (4, 0, [], (fParse l).getD 0) (fParse l).isSome := by
  refine ⟨?_, by show (_ : Int) ≤ 0; decide, by show (0 : Int) ≤ _; decide, fun hok => ?_, fun u hu fu n1 n2 e => ?_⟩
  · show (fParse l).getD 0 < _
    cases hp : fParse l with
    | none => exact (by decide : (0 : Nat) < 18446744073709551616)
    | some x => exact (fParse_some hp).2.2
  · cases hp : fParse l with
    | none => rw [hp] at hok; cases hok
    | some x => exact vRight_float (f := x) (fParse_some hp).2.1
  · rcases other h1 h2 h3 h4 hu e with ⟨m, rfl, rfl⟩ | ⟨f, hc, rfl, rfl⟩
    · exact absurd (atoi_int (n := m) n1 n2) (h m)
    · rw [fParse_print (v := f) fu, hc]
      exact ⟨rfl, rfl⟩
/-- The right value, of Go's ints, whose text it is. -/
def vP (l : List UInt8) : Option Vl := match vParse l with
  | some u => if -9223372036854775808 ≤ vn u ∧ vn u ≤ 9223372036854775807 then some u else none
  | none => none
theorem vP_some {l : List UInt8} {u : Vl} (h : vP l = some u) : vRight u = true ∧ vPrintR u = l ∧ vf u < 18446744073709551616 ∧ -9223372036854775808 ≤ vn u ∧ vn u ≤ 9223372036854775807 := by
  unfold vP at h
  cases hp : vParse l with
  | none => rw [hp] at h; cases h
  | some x =>
    rw [hp] at h
    simp only at h
    split at h
    · rename_i hb
      injection h with h
      subst h
      obtain ⟨h1, h2, h3⟩ := vParse_some hp
      exact ⟨h1, h2, h3, hb⟩
    · cases h
theorem vP_of {u : Vl} (h : vRight u = true) (hf : vf u < 18446744073709551616) (h1 : -9223372036854775808 ≤ vn u) (h2 : vn u ≤ 9223372036854775807) : vP (vPrintR u) = some u := by
  unfold vP
  rw [vParse_print h hf]
  exact if_pos ⟨h1, h2⟩
/-- What is so read, and printed again alike, is what Parse answers. -/
theorem vr_parse {l : List UInt8} {v : Vl} {ok : Bool} (h : VR l v ok) : vP l = if ok = true ∧ vPrint v = l then some v else none := by
  obtain ⟨hf, n1, n2, hr, hu⟩ := h
  by_cases hc : ok = true ∧ vPrint v = l
  · rw [if_pos hc]
    have hR := hr hc.1
    have e : vPrintR v = l := by rw [← hc.2]; unfold vPrint; rw [vRt_of hR]
    rw [← e]
    exact vP_of hR hf n1 n2
  · rw [if_neg hc]
    cases hp : vP l with
    | none => rfl
    | some u =>
      obtain ⟨h1, h2, h3, h4, h5⟩ := vP_some hp
      obtain ⟨h6, h7⟩ := hu u h1 h3 h4 h5 h2
      subst h7
      exact absurd ⟨h6, by unfold vPrint; rw [vRt_of h1]; exact h2⟩ hc
end Go.Proofs.YtfjpnkchldjjmaaGreatDoor
