/- What the document's own Whole and FromInt of package float return. -/
import Derived.Test.YtomgpkklbhdgiaaGreatDoorFlR1
namespace Go.Proofs.YtomgpkklbhdgiaaGreatDoor
open Go.RowKit

theorem odd_rest {q M J j : Nat} (hj : 0 < j) (hjJ : j ≤ J) (h : q * 2 ^ (J - j) = M) (ho : q % 2 = 1) : ¬ M % 2 ^ J = 0 := by
  intro h0
  have hp : 2 ^ J = 2 ^ j * 2 ^ (J - j) := by rw [← Nat.pow_add]; congr 1; omega
  rw [← h, hp, Nat.mul_mod_mul_right] at h0
  have hpos : 0 < 2 ^ (J - j) := Nat.pow_pos (by decide)
  have h1 : q % 2 ^ j = 0 := by
    rcases Nat.eq_zero_or_pos (q % 2 ^ j) with h | h
    · exact h
    · have := Nat.mul_pos h hpos; omega
  have h2 : 2 ^ j = 2 * 2 ^ (j - 1) := by rw [Nat.mul_comm, ← Nat.pow_succ]; congr 1; omega
  rw [h2] at h1
  have := Nat.mod_mul_right_mod q 2 (2 ^ (j - 1))
  rw [h1] at this
  omega

set_option maxHeartbeats 1000000 in
theorem rWhole_c (u : Nat) (hu : u < 18446744073709551616) (w : World) :
    Calls Tryz.prog 91 #[.int .u64 (u : Int)] w fun e w' => e = .returned (.tuple #[.int .i64 ((fWhole u).getD 0), .bool (fWhole u).isSome]) ∧ w = w' := by
  obtain ⟨e, he⟩ : ∃ e, e = fE u := ⟨_, rfl⟩
  obtain ⟨m, hm⟩ : ∃ m, m = fM u := ⟨_, rfl⟩
  obtain ⟨s, hs⟩ : ∃ s, s = fS u := ⟨_, rfl⟩
  have hel : e < 2048 := by rw [he]; unfold fE; omega
  have hml : m < 4503599627370496 := by rw [hm]; unfold fM; omega
  have hsl : s < 2 ∧ (s = 0 ↔ u < 9223372036854775808) := by rw [hs]; unfold fS; omega
  have HS := hid hsl
  have HW : Hid (fWhole u = if e = 0 ∧ m = 0 then some 0
    else if e < 1023 ∨ 1076 < e ∨ (e = 1076 ∧ 0 < m) then none
    else if e = 1076 then some (if u < 9223372036854775808 then 9007199254740992 else -9007199254740992)
    else if (m + 4503599627370496) % 2 ^ (1075 - e) = 0 then
      some (if u < 9223372036854775808 then (((m + 4503599627370496) / 2 ^ (1075 - e) : Nat) : Int) else -(((m + 4503599627370496) / 2 ^ (1075 - e) : Nat) : Int))
    else none) := by rw [he, hm]; rfl
  have HE := hid he
  have HM := hid hm
  have HSS := hid hs
  obtain ⟨fw, hfw⟩ : ∃ fw, fw = fWhole u := ⟨_, rfl⟩
  rw [← hfw]
  have HF : Hid (fw = _) := hid (hfw.trans HW.out)
  clear he hm hs hfw HW hsl
  go_enter Tryz.func91, Tryz.ntmps91
  go_wp2_with fail
  refine (rparts_c u hu w).mono ?_
  rintro e1 w' ⟨rfl, rfl⟩
  rw [← HE.out, ← HM.out, ← HSS.out]
  clear HE HM HSS
  by_cases c1 : e = 0 ∧ m = 0
  · have d1 : ((e : Int) == 0) = true := by simp; omega
    have d2 : ((m : Int) == 0) = true := by simp; omega
    have HR := hid (HF.out.trans (if_pos c1))
    clear c1 HF
    go_wp2
    go_ret2
    exact ⟨by rw [HR.out]; rfl, rfl⟩
  replace HF := hid (HF.out.trans (if_neg c1))
  by_cases c2 : e < 1023
  · have d3 : decide ((e : Int) < 1023) = true := by simp; omega
    have HR := hid (HF.out.trans (if_pos (.inl c2)))
    clear HF
    by_cases c3 : e = 0
    · have d1 : ((e : Int) == 0) = true := by simp; omega
      have d2 : ((m : Int) == 0) = false := by simp; omega
      clear c1 c2 c3
      go_wp2
      go_ret2
      exact ⟨by rw [HR.out]; rfl, rfl⟩
    · have d1 : ((e : Int) == 0) = false := by simp; omega
      clear c1 c2 c3
      go_wp2
      go_ret2
      exact ⟨by rw [HR.out]; rfl, rfl⟩
  have d1 : ((e : Int) == 0) = false := by simp; omega
  have d3 : decide ((e : Int) < 1023) = false := by simp; omega
  by_cases c3 : 1076 < e
  · have d4 : decide ((1076 : Int) < (e : Int)) = true := by simp; omega
    have HR := hid (HF.out.trans (if_pos (.inr (.inl c3))))
    clear HF c1 c2 c3
    go_wp2
    go_ret2
    exact ⟨by rw [HR.out]; rfl, rfl⟩
  have d4 : decide ((1076 : Int) < (e : Int)) = false := by simp; omega
  by_cases c4 : e = 1076
  · have d5 : ((e : Int) == 1076) = true := by simp; omega
    by_cases c5 : 0 < m
    · have d6 : decide (0 < m) = true := by simpa using c5
      have HR := hid (HF.out.trans (if_pos (.inr (.inr ⟨c4, c5⟩))))
      clear HF c1 c2 c3 c4 c5
      go_wp2
      go_ret2
      exact ⟨by rw [HR.out]; rfl, rfl⟩
    · have d6 : decide (0 < m) = false := by simpa using c5
      have HR := hid (HF.out.trans ((if_neg (by omega)).trans (if_pos c4)))
      have e1 : (e : Int) - 1075 = 1 := by omega
      have e2 : (m : Int) + 4503599627370496 = 4503599627370496 := by omega
      clear HF c1 c2 c3 c4 c5
      go_wp2_with fail
      go_loop [7, 8] (fun n k => n = .int .u64 4503599627370496 ∧ k = .int .i64 1) (fun _ _ => 0)
      case atStart => exact ⟨rfl, rfl⟩
      case round =>
        obtain ⟨rfl, rfl⟩ := hrel
        go_wp2_with fail
        go_loop [7, 8] (fun n k => (n = .int .u64 4503599627370496 ∧ k = .int .i64 1) ∨ (n = .int .u64 9007199254740992 ∧ k = .int .i64 0)) (fun _ k => (intOf k).toNat)
        case atStart => exact .inl ⟨rfl, rfl⟩
        case round =>
          rcases hrel with ⟨rfl, rfl⟩ | ⟨rfl, rfl⟩
          · go_wp2
            exact ⟨.inr ⟨rfl, rfl⟩, by decide⟩
          · by_cases hs0 : s = 0
            · have d7 : ((s : Int) == 1) = false := by simp; omega
              have hu0 := HS.out.2.1 hs0
              clear hs0
              go_wp2
              go_ret2
              refine ⟨?_, rfl⟩
              rw [HR.out, if_pos hu0]
              rfl
            · have d7 : ((s : Int) == 1) = true := by have := HS.out; simp; omega
              have hu0 : ¬ u < 9223372036854775808 := fun h => hs0 (HS.out.2.2 h)
              clear hs0
              go_wp2
              go_ret2
              refine ⟨?_, rfl⟩
              rw [HR.out, if_neg hu0]
              rfl
  · have d5 : ((e : Int) == 1076) = false := by simp; omega
    have HR := hid (HF.out.trans ((if_neg (by omega)).trans (if_neg c4)))
    obtain ⟨J, hJ⟩ : ∃ J, J = 1075 - e := ⟨_, rfl⟩
    have e1 : (e : Int) - 1075 = -(J : Int) := by omega
    have hJ52 : J ≤ 52 := by omega
    have w1 : IntKind.i64.wrap ((e : Int) - 1075) = -(J : Int) := by rw [e1]; exact IntWalk.i64_in _ (by omega)
    obtain ⟨M, hM⟩ : ∃ M, M = m + 4503599627370496 := ⟨_, rfl⟩
    have w2 : IntKind.u64.wrap ((m : Int) + 4503599627370496) = (M : Int) := by rw [hM]; exact IntWalk.u64_in _ (by omega)
    have e2 : (m : Int) + 4503599627370496 = (M : Int) := by omega
    have hMl : M < 9007199254740992 := by omega
    rw [← hJ, ← hM] at HR
    clear HF c1 c2 c3 c4 hJ hM hel hml
    go_wp2_with fail
    go_loop [7, 8] (fun n k => ∃ (q j : Nat) (z : Int), n = .int .u64 (q : Int) ∧ k = .int .i64 z ∧ Hid (z = -(j : Int) ∧ j ≤ J ∧ q ≤ M) ∧ Hid (q * 2 ^ (J - j) = M)) (fun _ k => (-(intOf k)).toNat)
    case atStart => exact ⟨M, J, _, rfl, rfl, hid ⟨rfl, Nat.le_refl _, Nat.le_refl _⟩, by unfold Hid; simp⟩
    case round =>
      obtain ⟨q, j, z, rfl, rfl, hz, hv⟩ := hrel
      by_cases hj0 : j = 0
      · subst hj0
        have hz0 : z = 0 := by have := hz.out; omega
        subst hz0
        have hq := hz.out.2.2
        have HD := hid hv.out
        rw [Nat.sub_zero] at HD
        have hpos : 0 < 2 ^ J := Nat.pow_pos (by decide)
        have HR2 : Hid (fw = some (if u < 9223372036854775808 then (q : Int) else -(q : Int))) := by
          have h1 := HR.out
          rw [← HD.out, Nat.mul_mod_left, if_pos rfl, Nat.mul_div_cancel _ hpos] at h1
          exact h1
        clear HR HD hv hpos
        go_wp2_with fail
        go_loop [7, 8] (fun n k => n = .int .u64 (q : Int) ∧ k = .int .i64 0) (fun _ _ => 0)
        case atStart => exact ⟨rfl, rfl⟩
        case round =>
          obtain ⟨rfl, rfl⟩ := hrel
          have w3 : IntKind.i64.wrap (q : Int) = (q : Int) := IntWalk.i64_in _ (by omega)
          have w4 : IntKind.i64.wrap (-(q : Int)) = -(q : Int) := IntWalk.i64_in _ (by omega)
          by_cases hs0 : s = 0
          · have d7 : ((s : Int) == 1) = false := by simp; omega
            have hu0 := HS.out.2.1 hs0
            clear hs0
            go_wp2
            go_ret2
            refine ⟨?_, rfl⟩
            rw [HR2.out, if_pos hu0]
            rfl
          · have d7 : ((s : Int) == 1) = true := by have := HS.out; simp; omega
            have hu0 : ¬ u < 9223372036854775808 := fun h => hs0 (HS.out.2.2 h)
            clear hs0
            go_wp2
            go_ret2
            refine ⟨?_, rfl⟩
            rw [HR2.out, if_neg hu0]
            rfl
      · have d8 : decide (z < 0) = true := by have := hz.out; simp; omega
        have hj := hz.out.2.1
        by_cases ho : q % 2 = 1
        · have d9 : ((q : Int) % 2 == 1) = true := by simp; omega
          have HR2 : Hid (fw = none) := hid (HR.out.trans (if_neg (odd_rest (by omega) hj hv.out ho)))
          clear HR hv ho hj0 hMl w1 w2 e1 e2 hj hz
          go_wp2
          go_ret2
          exact ⟨by rw [HR2.out]; rfl, rfl⟩
        · have d9 : ((q : Int) % 2 == 1) = false := by simp; omega
          have w5 : IntKind.i64.wrap (z + 1) = z + 1 := IntWalk.i64_in _ (by have := hz.out; omega)
          have w6 : IntKind.u64.wrap ((q : Int) / 2) = (q : Int) / 2 := IntWalk.u64_in _ (by have := hz.out; omega)
          have HZ : Hid (z + 1 = -((j - 1 : Nat) : Int) ∧ j - 1 ≤ J ∧ q / 2 ≤ M) := hid (by have := hz.out; omega)
          have HY : Hid (z < 0) := hid (by have := hz.out; omega)
          have HV2 : Hid (q / 2 * 2 ^ (J - (j - 1)) = M) := by
            have h1 := hv.out
            unfold Hid
            rw [show J - (j - 1) = (J - j) + 1 by omega, Nat.pow_succ, Nat.mul_comm (2 ^ (J - j)) 2, ← Nat.mul_assoc, show q / 2 * 2 = q by omega]
            exact h1
          clear HR hv hMl w1 w2 e1 e2 hj0 hj ho hz
          go_wp2
          exact ⟨⟨q / 2, j - 1, z + 1, by rw [Int.natCast_ediv]; rfl, rfl, HZ, HV2⟩, by have := HY.out; simp [intOf]; omega⟩

/-- Where the document's loops end: fraction and exponent of a whole number. -/
theorem from_end {k m j e : Nat} (h0 : 0 < k) (hm : m = k * 2 ^ j) (hj : j ≤ 52) (h1 : 4503599627370496 ≤ m) (h2 : m < 9007199254740992) (he : e + j = 1075) :
    e * 4503599627370496 + m = wBits k + 4503599627370496 := by
  obtain ⟨hl, hw⟩ := mant_back hj h1 h2 hm
  rw [wBits_pos h0, hl, hw, show 1022 + (52 - j) = e - 1 by omega]
  have : e = (e - 1) + 1 := by omega
  rw [this, Nat.add_mul, Nat.add_sub_cancel]
  omega
theorem wBits_53 : wBits 9007199254740992 = 4845873199050653696 := by
  have hl : (9007199254740992 : Nat).log2 = 53 := log_unique (by omega) (by omega)
  rw [wBits_pos (by omega)]
  unfold wMant
  rw [hl]
  rfl

set_option maxHeartbeats 1000000 in
theorem rFromInt_c (n : Int) (w : World) :
    Calls Tryz.prog 92 #[.int .i64 n] w fun e w' => e = .returned (.tuple #[.int .u64 (fFrom n : Int), .bool (inRange n)]) ∧ w = w' := by
  by_cases h1 : n < -9007199254740992
  · have hr : inRange n = false := by unfold inRange; simp; omega
    have hz := hid (fFrom_no hr)
    have d1 : decide (n < -9007199254740992) = true := by simpa using h1
    go_enter Tryz.func92, Tryz.ntmps92
    go_wp2
    go_ret2
    first | exact ⟨by rw [hz.out]; rfl, rfl⟩ | exact ⟨by rw [hr, hz.out]; rfl, rfl⟩
  have d1 : decide (n < -9007199254740992) = false := by simpa using h1
  by_cases h2 : 9007199254740992 < n
  · have hr : inRange n = false := by unfold inRange; simp; omega
    have hz := hid (fFrom_no hr)
    have d2 : decide (9007199254740992 < n) = true := by simpa using h2
    go_enter Tryz.func92, Tryz.ntmps92
    go_wp2
    go_ret2
    first | exact ⟨by rw [hz.out]; rfl, rfl⟩ | exact ⟨by rw [hr, hz.out]; rfl, rfl⟩
  have d2 : decide (9007199254740992 < n) = false := by simpa using h2
  have hr : inRange n = true := by unfold inRange; simp; omega
  have hz := hid (fFrom_is hr)
  rw [hr]
  obtain ⟨f, hf⟩ : ∃ f, f = fFrom n := ⟨_, rfl⟩
  rw [← hf]
  have HF := hid (hf.trans hz.out)
  clear hf hz hr
  by_cases h0 : n = 0
  · have d3 : (n == 0) = true := by simpa using h0
    have HQ := hid h0
    clear h0 h1 h2
    go_enter Tryz.func92, Tryz.ntmps92
    go_wp2
    go_ret2
    exact ⟨by rw [HF.out, HQ.out]; rfl, rfl⟩
  have d3 : (n == 0) = false := by simpa using h0
  obtain ⟨k, hk⟩ : ∃ k, k = n.natAbs := ⟨_, rfl⟩
  obtain ⟨sg, hsg⟩ : ∃ sg : Nat, sg = if n < 0 then 1 else 0 := ⟨_, rfl⟩
  have hk0 : 0 < k := by omega
  have hkl : k ≤ 9007199254740992 := by omega
  have HF2 : Hid (f = sg * 9223372036854775808 + wBits k ∧ sg < 2) := by
    have h := HF.out
    unfold fOfInt at h
    rw [← hk] at h
    unfold Hid
    split at h <;> split at hsg <;> omega
  have hn1 : n < 0 → IntKind.i64.wrap (-n) = -n ∧ IntKind.u64.wrap (-n) = (k : Int) := fun h => ⟨IntWalk.i64_in _ (by omega), (IntWalk.u64_in _ (by omega)).trans (by omega)⟩
  have hn2 : ¬ n < 0 → IntKind.u64.wrap n = (k : Int) := fun h => (IntWalk.u64_in _ (by omega)).trans (by omega)
  have HSG := hid hsg
  have HKL := hid hkl
  have HK0 := hid hk0
  clear h0 h1 h2 hk hsg HF hkl hk0
  by_cases hn : n < 0
  · obtain ⟨w1, w2⟩ := hn1 hn
    have d4 : decide (n < 0) = true := by simpa using hn
    have HF3 : Hid (f = 9223372036854775808 + wBits k) := by have h := HF2.out; have h2 := HSG.out; rw [if_pos hn] at h2; unfold Hid; omega
    clear hn1 hn2 HF2 HSG hn
    go_enter Tryz.func92, Tryz.ntmps92
    go_wp2_with fail
    go_loop [5, 6] (fun m e => ∃ (q x : Nat), m = .int .u64 (q : Int) ∧ e = .int .u64 (x : Int) ∧ Hid (∃ j, q = k * 2 ^ j ∧ x + j = 1075 ∧ j ≤ 52 ∧ (q < 9007199254740992 ∨ k = 9007199254740992 ∧ j = 0))) (fun _ e => (intOf e).toNat)
    case atStart => exact ⟨k, 1075, rfl, rfl, hid ⟨0, by omega, by omega, by omega, by have := HKL.out; omega⟩⟩
    case round =>
      obtain ⟨q, x, rfl, rfl, hq⟩ := hrel
      by_cases hlt : q < 4503599627370496
      · have d5 : decide ((q : Int) < 4503599627370496) = true := by simp; omega
        have HX : Hid (1023 < x ∧ x ≤ 1075) := by
          obtain ⟨j, h1, h2, h3, h4⟩ := hq.out
          have hk := HK0.out
          have h5 : 2 ^ j ≤ q := by rw [h1]; exact Nat.le_mul_of_pos_left _ hk
          have h6 : j < 52 := (Nat.pow_lt_pow_iff_right (a := 2) (by decide)).1 (Nat.lt_of_le_of_lt h5 hlt)
          unfold Hid; omega
        have HN : Hid (∃ j, q * 2 = k * 2 ^ j ∧ x - 1 + j = 1075 ∧ j ≤ 52 ∧ (q * 2 < 9007199254740992 ∨ k = 9007199254740992 ∧ j = 0)) := by
          obtain ⟨j, h1, h2, h3, h4⟩ := hq.out
          have := HX.out
          refine hid ⟨j + 1, by rw [h1, Nat.pow_succ, Nat.mul_assoc], by omega, by omega, .inl (by omega)⟩
        have w3 : IntKind.u64.wrap ((q : Int) * 2) = ((q * 2 : Nat) : Int) := (IntWalk.u64_in _ (by omega)).trans (by omega)
        have w4 : IntKind.u64.wrap ((x : Int) - 1) = ((x - 1 : Nat) : Int) := by have := HX.out; exact (IntWalk.u64_in _ (by omega)).trans (by omega)
        clear hq hlt
        go_wp2
        refine ⟨⟨q * 2, x - 1, ?_, ?_, HN⟩, by have := HX.out; simp [intOf]; omega⟩
        · first | rfl | (congr 1; omega)
        · first | rfl | (congr 1; have := HX.out; omega)
      · have d5 : decide ((q : Int) < 4503599627370496) = false := by simp; omega
        have HQ : Hid ((q = 9007199254740992 ∧ k = 9007199254740992 ∧ x = 1075) ∨ (q < 9007199254740992 ∧ 4503599627370496 ≤ q ∧ x ≤ 1075 ∧ x * 4503599627370496 + q = wBits k + 4503599627370496)) := by
          obtain ⟨j, h1, h2, h3, h4⟩ := hq.out
          rcases h4 with h4 | ⟨h4, h5⟩
          · exact hid (.inr ⟨h4, by omega, by omega, from_end HK0.out h1 h3 (by omega) h4 h2⟩)
          · subst h5; rw [Nat.pow_zero] at h1; exact hid (.inl ⟨by omega, h4, by omega⟩)
        clear hq hlt
        go_wp2_with fail
        go_loop [5, 6] (fun m e => ∃ (q x : Nat), m = .int .u64 (q : Int) ∧ e = .int .u64 (x : Int) ∧ Hid ((q = 9007199254740992 ∧ k = 9007199254740992 ∧ x = 1075) ∨ (q < 9007199254740992 ∧ 4503599627370496 ≤ q ∧ x ≤ 1076 ∧ x * 4503599627370496 + q = wBits k + 4503599627370496))) (fun m _ => (intOf m).toNat)
        case atStart => exact ⟨q, x, rfl, rfl, hid (by rcases HQ.out with h | h <;> omega)⟩
        case round =>
          obtain ⟨q, x, rfl, rfl, hq⟩ := hrel
          by_cases hge : 9007199254740992 ≤ q
          · have d6 : decide ((9007199254740992 : Int) ≤ (q : Int)) = true := by simp; omega
            obtain ⟨h1, h2, h3⟩ : q = 9007199254740992 ∧ k = 9007199254740992 ∧ x = 1075 := by rcases hq.out with h | h <;> omega
            have HN : Hid ((4503599627370496 = 9007199254740992 ∧ k = 9007199254740992 ∧ 1076 = 1075) ∨ (4503599627370496 < 9007199254740992 ∧ 4503599627370496 ≤ 4503599627370496 ∧ 1076 ≤ 1076 ∧ 1076 * 4503599627370496 + 4503599627370496 = wBits k + 4503599627370496)) := hid (.inr ⟨by decide, by decide, by decide, by rw [h2, wBits_53]⟩)
            subst h1 h3
            clear hq h2 hge HQ
            go_wp2
            exact ⟨⟨4503599627370496, 1076, rfl, rfl, HN⟩, by decide⟩
          · have d6 : decide ((9007199254740992 : Int) ≤ (q : Int)) = false := by simp; omega
            have HE : Hid (4503599627370496 ≤ q ∧ x ≤ 1076 ∧ x * 4503599627370496 + q = wBits k + 4503599627370496) := hid (by rcases hq.out with h | h <;> omega)
            have HB : Hid (wBits k ≤ 4845873199050653696) := hid (wBits_lt HKL.out)
            have w5 : IntKind.u64.wrap ((x : Int) * 4503599627370496) = (x : Int) * 4503599627370496 := IntWalk.u64_in _ (by have := HE.out; omega)
            have w6 : IntKind.u64.wrap (9223372036854775808 + (x : Int) * 4503599627370496) = 9223372036854775808 + (x : Int) * 4503599627370496 := IntWalk.u64_in _ (by have := HE.out; have := HB.out; omega)
            have w7 : IntKind.u64.wrap (9223372036854775808 + (x : Int) * 4503599627370496 + (q : Int)) = 9223372036854775808 + (x : Int) * 4503599627370496 + (q : Int) := IntWalk.u64_in _ (by have := HE.out; have := HB.out; omega)
            have w8 : IntKind.u64.wrap (9223372036854775808 + (x : Int) * 4503599627370496 + (q : Int) - 4503599627370496) = (f : Int) := (IntWalk.u64_in _ (by have := HE.out; have := HB.out; omega)).trans (by have := HE.out; have := HF3.out; omega)
            clear hq hge HQ
            go_wp2
            go_ret2
            exact ⟨rfl, rfl⟩
  · have w2 := hn2 hn
    have d4 : decide (n < 0) = false := by simpa using hn
    have HF3 : Hid (f = wBits k) := by have h := HF2.out; have h2 := HSG.out; rw [if_neg hn] at h2; unfold Hid; omega
    clear hn1 hn2 HF2 HSG hn
    go_enter Tryz.func92, Tryz.ntmps92
    go_wp2_with fail
    go_loop [5, 6] (fun m e => ∃ (q x : Nat), m = .int .u64 (q : Int) ∧ e = .int .u64 (x : Int) ∧ Hid (∃ j, q = k * 2 ^ j ∧ x + j = 1075 ∧ j ≤ 52 ∧ (q < 9007199254740992 ∨ k = 9007199254740992 ∧ j = 0))) (fun _ e => (intOf e).toNat)
    case atStart => exact ⟨k, 1075, rfl, rfl, hid ⟨0, by omega, by omega, by omega, by have := HKL.out; omega⟩⟩
    case round =>
      obtain ⟨q, x, rfl, rfl, hq⟩ := hrel
      by_cases hlt : q < 4503599627370496
      · have d5 : decide ((q : Int) < 4503599627370496) = true := by simp; omega
        have HX : Hid (1023 < x ∧ x ≤ 1075) := by
          obtain ⟨j, h1, h2, h3, h4⟩ := hq.out
          have hk := HK0.out
          have h5 : 2 ^ j ≤ q := by rw [h1]; exact Nat.le_mul_of_pos_left _ hk
          have h6 : j < 52 := (Nat.pow_lt_pow_iff_right (a := 2) (by decide)).1 (Nat.lt_of_le_of_lt h5 hlt)
          unfold Hid; omega
        have HN : Hid (∃ j, q * 2 = k * 2 ^ j ∧ x - 1 + j = 1075 ∧ j ≤ 52 ∧ (q * 2 < 9007199254740992 ∨ k = 9007199254740992 ∧ j = 0)) := by
          obtain ⟨j, h1, h2, h3, h4⟩ := hq.out
          have := HX.out
          refine hid ⟨j + 1, by rw [h1, Nat.pow_succ, Nat.mul_assoc], by omega, by omega, .inl (by omega)⟩
        have w3 : IntKind.u64.wrap ((q : Int) * 2) = ((q * 2 : Nat) : Int) := (IntWalk.u64_in _ (by omega)).trans (by omega)
        have w4 : IntKind.u64.wrap ((x : Int) - 1) = ((x - 1 : Nat) : Int) := by have := HX.out; exact (IntWalk.u64_in _ (by omega)).trans (by omega)
        clear hq hlt
        go_wp2
        refine ⟨⟨q * 2, x - 1, ?_, ?_, HN⟩, by have := HX.out; simp [intOf]; omega⟩
        · first | rfl | (congr 1; omega)
        · first | rfl | (congr 1; have := HX.out; omega)
      · have d5 : decide ((q : Int) < 4503599627370496) = false := by simp; omega
        have HQ : Hid ((q = 9007199254740992 ∧ k = 9007199254740992 ∧ x = 1075) ∨ (q < 9007199254740992 ∧ 4503599627370496 ≤ q ∧ x ≤ 1075 ∧ x * 4503599627370496 + q = wBits k + 4503599627370496)) := by
          obtain ⟨j, h1, h2, h3, h4⟩ := hq.out
          rcases h4 with h4 | ⟨h4, h5⟩
          · exact hid (.inr ⟨h4, by omega, by omega, from_end HK0.out h1 h3 (by omega) h4 h2⟩)
          · subst h5; rw [Nat.pow_zero] at h1; exact hid (.inl ⟨by omega, h4, by omega⟩)
        clear hq hlt
        go_wp2_with fail
        go_loop [5, 6] (fun m e => ∃ (q x : Nat), m = .int .u64 (q : Int) ∧ e = .int .u64 (x : Int) ∧ Hid ((q = 9007199254740992 ∧ k = 9007199254740992 ∧ x = 1075) ∨ (q < 9007199254740992 ∧ 4503599627370496 ≤ q ∧ x ≤ 1076 ∧ x * 4503599627370496 + q = wBits k + 4503599627370496))) (fun m _ => (intOf m).toNat)
        case atStart => exact ⟨q, x, rfl, rfl, hid (by rcases HQ.out with h | h <;> omega)⟩
        case round =>
          obtain ⟨q, x, rfl, rfl, hq⟩ := hrel
          by_cases hge : 9007199254740992 ≤ q
          · have d6 : decide ((9007199254740992 : Int) ≤ (q : Int)) = true := by simp; omega
            obtain ⟨h1, h2, h3⟩ : q = 9007199254740992 ∧ k = 9007199254740992 ∧ x = 1075 := by rcases hq.out with h | h <;> omega
            have HN : Hid ((4503599627370496 = 9007199254740992 ∧ k = 9007199254740992 ∧ 1076 = 1075) ∨ (4503599627370496 < 9007199254740992 ∧ 4503599627370496 ≤ 4503599627370496 ∧ 1076 ≤ 1076 ∧ 1076 * 4503599627370496 + 4503599627370496 = wBits k + 4503599627370496)) := hid (.inr ⟨by decide, by decide, by decide, by rw [h2, wBits_53]⟩)
            subst h1 h3
            clear hq h2 hge HQ
            go_wp2
            exact ⟨⟨4503599627370496, 1076, rfl, rfl, HN⟩, by decide⟩
          · have d6 : decide ((9007199254740992 : Int) ≤ (q : Int)) = false := by simp; omega
            have HE : Hid (4503599627370496 ≤ q ∧ x ≤ 1076 ∧ x * 4503599627370496 + q = wBits k + 4503599627370496) := hid (by rcases hq.out with h | h <;> omega)
            have HB : Hid (wBits k ≤ 4845873199050653696) := hid (wBits_lt HKL.out)
            have w5 : IntKind.u64.wrap ((x : Int) * 4503599627370496) = (x : Int) * 4503599627370496 := IntWalk.u64_in _ (by have := HE.out; omega)
            have w7 : IntKind.u64.wrap ((x : Int) * 4503599627370496 + (q : Int)) = (x : Int) * 4503599627370496 + (q : Int) := IntWalk.u64_in _ (by have := HE.out; have := HB.out; omega)
            have w8 : IntKind.u64.wrap ((x : Int) * 4503599627370496 + (q : Int) - 4503599627370496) = (f : Int) := (IntWalk.u64_in _ (by have := HE.out; have := HB.out; omega)).trans (by have := HE.out; have := HF3.out; omega)
            clear hq hge HQ
            go_wp2
            go_ret2
            exact ⟨rfl, rfl⟩
end Go.Proofs.YtomgpkklbhdgiaaGreatDoor
