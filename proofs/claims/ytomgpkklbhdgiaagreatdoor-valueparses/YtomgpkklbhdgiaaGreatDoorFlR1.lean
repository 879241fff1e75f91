/- What the document's own Magnitude, Compare and Order of package float return. -/
import Derived.Test.YtomgpkklbhdgiaaGreatDoorFlR0
namespace Go.Proofs.YtomgpkklbhdgiaaGreatDoor
open Go.RowKit

theorem rMag_c (u : Nat) (w : World) :
    Calls Tryz.prog 76 #[.int .u64 (u : Int)] w fun e w' => e = .returned (.int .u64 (fMag u : Int)) ∧ w = w' := by
  go_enter Tryz.func76, Tryz.ntmps76
  go_wp2
  go_ret
  exact ⟨by unfold fMag; rw [Int.natCast_emod]; rfl, rfl⟩

set_option maxHeartbeats 4000000 in
theorem rCompare_c (a b : Nat) (ha : a < 18446744073709551616) (hb : b < 18446744073709551616) (w : World) :
    Calls Tryz.prog 41 #[.int .u64 (a : Int), .int .u64 (b : Int)] w fun e w' => e = .returned (.tuple #[.int .i64 (fCmp a b), .bool (fCmpOk a b)]) ∧ w = w' := by
  cases hna : fNan a
  · cases hnb : fNan b
    · have k1 : fCmpOk a b = true := by unfold fCmpOk; rw [hna, hnb]; rfl
      have k2 : fCmp a b = sgn (fNum a - fNum b) := by unfold fCmp; rw [hna, hnb]; rfl
      have g1 := (fNan_false a ha).1 hna
      have g2 := (fNan_false b hb).1 hnb
      obtain ⟨x, hx⟩ : ∃ x, x = fMag a := ⟨_, rfl⟩
      obtain ⟨y, hy⟩ : ∃ y, y = fMag b := ⟨_, rfl⟩
      have hx2 := hx
      have hy2 := hy
      unfold fMag at hx2 hy2
      obtain ⟨sa, hsa⟩ : ∃ sa, sa = a / 9223372036854775808 := ⟨_, rfl⟩
      obtain ⟨sb, hsb⟩ : ∃ sb, sb = b / 9223372036854775808 := ⟨_, rfl⟩
      have ca : (a : Int) / 9223372036854775808 = (sa : Int) := by omega
      have cb : (b : Int) / 9223372036854775808 = (sb : Int) := by omega
      have K1 := hid k1
      have K2 := hid k2
      have K := hid (And.intro hx2 (And.intro hy2 (And.intro hsa hsb)))
      clear k1 k2 hx2 hy2 hsa hsb
      have main : ∀ (t1 t2 : Bool), ((x : Int) == 0) = t1 → ((y : Int) == 0) = t2 → ∀ t3, ((a : Int) == (b : Int)) = t3 → ∀ t4, ((sa : Int) != (sb : Int)) = t4 → ∀ t5, decide (x < y) = t5 → ∀ t6, ((sa : Int) == 0) = t6 →
        Calls Tryz.prog 41 #[.int .u64 (a : Int), .int .u64 (b : Int)] w fun e w' => e = .returned (.tuple #[.int .i64 (fCmp a b), .bool (fCmpOk a b)]) ∧ w = w' := by
        intro t1 t2 e1 e2 t3 e3 t4 e4 t5 e5 t6 e6
        have w1 : IntKind.i64.wrap (sa : Int) = sa := IntWalk.i64_in _ (by have := K.out; omega)
        have w2 : IntKind.i64.wrap (sb : Int) = sb := IntWalk.i64_in _ (by have := K.out; omega)
        have w3 : IntKind.i64.wrap ((sb : Int) - sa) = sb - sa := IntWalk.i64_in _ (by have := K.out; omega)
        go_enter Tryz.func41, Tryz.ntmps41
        go_wp2_with fail
        refine (rIsNan_c a ha w).mono ?_
        rintro e w' ⟨rfl, rfl⟩
        rw [hna]
        go_wp2_with fail
        refine (rIsNan_c b hb w).mono ?_
        rintro e w' ⟨rfl, rfl⟩
        rw [hnb]
        go_wp2_with fail
        refine (rMag_c a w).mono ?_
        rintro e w' ⟨rfl, rfl⟩
        rw [← hx]
        clear hx
        go_wp2_with fail
        refine (rMag_c b w).mono ?_
        rintro e w' ⟨rfl, rfl⟩
        rw [← hy]
        clear hy
        cases t1 <;> cases t2 <;> cases t3 <;> cases t4 <;> cases t5 <;> cases t6 <;> first
          | (exfalso; have := K.out; simp at e1 e2 e3 e4 e5 e6; omega)
          | (go_wp2
             go_ret2
             refine ⟨?_, rfl⟩
             rw [K1.out, K2.out]
             have hK := K.out
             simp at e1 e2 e3 e4 e5 e6
             have s1 : sa = 0 ∨ sa = 1 := by omega
             have s2 : sb = 0 ∨ sb = 1 := by omega
             clear w1 w2 w3 ca cb K K1 K2
             unfold fNum sgn
             rcases s1 with rfl | rfl <;> rcases s2 with rfl | rfl <;> (repeat' split) <;> first | rfl | omega)
      exact main _ _ rfl rfl _ rfl _ rfl _ rfl _ rfl
    · have k1 : fCmpOk a b = false := by unfold fCmpOk; rw [hna, hnb]; rfl
      have k2 : fCmp a b = 0 := by unfold fCmp; rw [hna, hnb]; rfl
      go_enter Tryz.func41, Tryz.ntmps41
      go_wp2_with fail
      refine (rIsNan_c a ha w).mono ?_
      rintro e w' ⟨rfl, rfl⟩
      rw [hna]
      go_wp2_with fail
      refine (rIsNan_c b hb w).mono ?_
      rintro e w' ⟨rfl, rfl⟩
      rw [hnb]
      go_wp2
      go_ret2
      first | exact ⟨rfl, rfl⟩ | exact ⟨by rw [k1, k2]; rfl, rfl⟩
  · have k1 : fCmpOk a b = false := by unfold fCmpOk; rw [hna]; rfl
    have k2 : fCmp a b = 0 := by unfold fCmp; rw [hna]; rfl
    go_enter Tryz.func41, Tryz.ntmps41
    go_wp2_with fail
    refine (rIsNan_c a ha w).mono ?_
    rintro e w' ⟨rfl, rfl⟩
    rw [hna]
    go_wp2
    go_ret2
    first | exact ⟨rfl, rfl⟩ | exact ⟨by rw [k1, k2]; rfl, rfl⟩

theorem rOrder_c (a b : Nat) (ha : a < 18446744073709551616) (hb : b < 18446744073709551616) (w : World) :
    Calls Tryz.prog 46 #[.int .u64 (a : Int), .int .u64 (b : Int)] w fun e w' => e = .returned (.int .i64 (fOrd a b)) ∧ w = w' := by
  rw [← fOrd_canon]
  have hca := fCanon_lt ha
  have hcb := fCanon_lt hb
  have na : fNan (fCanon a) = fNan a := by unfold fCanon; split <;> simp_all <;> decide
  have nb : fNan (fCanon b) = fNan b := by unfold fCanon; split <;> simp_all <;> decide
  have ka : fNan (fCanon a) = true → fCanon a = 9221120237041090560 := fun h => by rw [na] at h; unfold fCanon; rw [if_pos h]
  have kb : fNan (fCanon b) = true → fCanon b = 9221120237041090560 := fun h => by rw [nb] at h; unfold fCanon; rw [if_pos h]
  obtain ⟨x, hx⟩ : ∃ x, x = fCanon a := ⟨_, rfl⟩
  obtain ⟨y, hy⟩ : ∃ y, y = fCanon b := ⟨_, rfl⟩
  rw [← hx] at hca na ka ⊢
  rw [← hy] at hcb nb kb ⊢
  clear na nb
  have HX := hid hx
  have HY := hid hy
  clear hx hy
  go_enter Tryz.func46, Tryz.ntmps46
  go_wp2_with fail
  refine (rCanon_c a ha w).mono ?_
  rintro e w' ⟨rfl, rfl⟩
  rw [← HX.out]
  go_wp2_with fail
  refine (rCanon_c b hb w).mono ?_
  rintro e w' ⟨rfl, rfl⟩
  rw [← HY.out]
  by_cases hxy : x = y
  · have d1 : ((x : Int) == (y : Int)) = true := by simp; omega
    have HZ := hid hxy
    clear hxy
    go_wp2
    go_ret
    refine ⟨?_, rfl⟩
    rw [HZ.out]
    unfold fOrd; rw [Int.sub_self]; rfl
  · have d1 : ((x : Int) == (y : Int)) = false := by simp; omega
    have fx := fNan_false x hca
    have fy := fNan_false y hcb
    cases hnx : fNan x
    · cases hny : fNan y
      · have KX := hid (fx.1 hnx)
        have KY := hid (fy.1 hny)
        have hok : fCmpOk x y = true := by unfold fCmpOk; rw [hnx, hny]; rfl
        have hc := hid (show fCmp x y = sgn (fNum x - fNum y) by unfold fCmp; rw [hnx, hny]; rfl)
        have ho := hid (show fOrd x y = sgn ((if x < 9223372036854775808 then (x : Int) else 9223372036854775807 - (x : Int)) - (if y < 9223372036854775808 then (y : Int) else 9223372036854775807 - (y : Int))) by unfold fOrd fKey; rw [hnx, hny]; rfl)
        clear fx fy ka kb
        go_wp2_with fail
        refine (rIsNan_c x hca w).mono ?_
        rintro e w' ⟨rfl, rfl⟩
        rw [hnx]
        go_wp2_with fail
        refine (rIsNan_c y hcb w).mono ?_
        rintro e w' ⟨rfl, rfl⟩
        rw [hny]
        go_wp2_with fail
        refine (rCompare_c x y hca hcb w).mono ?_
        rintro e w' ⟨rfl, rfl⟩
        by_cases h0 : fCmp x y = 0
        · have d2 : (fCmp x y != 0) = false := by simpa using h0
          have hz := h0
          rw [hc.out, sgn_zero] at hz
          by_cases hg : y < x
          · have d3 : decide (y < x) = true := by simpa using hg
            clear h0
            go_wp2
            go_ret
            refine ⟨?_, rfl⟩
            rw [ho.out]
            have := KX.out
            have := KY.out
            unfold fNum at hz
            unfold sgn
            (repeat' split) <;> first | rfl | (split at hz <;> split at hz <;> omega) | omega
          · have d3 : decide (y < x) = false := by simpa using hg
            clear h0
            go_wp2
            go_ret
            refine ⟨?_, rfl⟩
            rw [ho.out]
            have := KX.out
            have := KY.out
            unfold fNum at hz
            unfold sgn
            (repeat' split) <;> first | rfl | (split at hz <;> split at hz <;> omega) | omega
        · have d2 : (fCmp x y != 0) = true := by simpa using h0
          go_wp2
          go_ret
          exact ⟨by rw [fOrd_cmp hca hcb hok h0]; rfl, rfl⟩
      · have hf := hid (show fOrd x y = -1 by
          have := fx.1 hnx
          have := kb hny
          unfold fOrd fKey; rw [hnx, hny]; unfold sgn
          simp only [Bool.false_eq_true, if_false, if_true]
          (repeat' split) <;> first | rfl | omega)
        go_wp2_with fail
        refine (rIsNan_c x hca w).mono ?_
        rintro e w' ⟨rfl, rfl⟩
        rw [hnx]
        go_wp2_with fail
        refine (rIsNan_c y hcb w).mono ?_
        rintro e w' ⟨rfl, rfl⟩
        rw [hny]
        go_wp2
        go_ret
        exact ⟨by rw [hf.out]; rfl, rfl⟩
    · have hf := hid (show fOrd x y = 1 by
        have hx := ka hnx
        have hny : fNan y = false := by
          cases h : fNan y
          · rfl
          · exact absurd (hx.trans (kb h).symm) hxy
        have := fy.1 hny
        unfold fOrd fKey; rw [hnx, hny]; unfold sgn
        simp only [Bool.false_eq_true, if_false, if_true]
        (repeat' split) <;> first | rfl | omega)
      go_wp2_with fail
      refine (rIsNan_c x hca w).mono ?_
      rintro e w' ⟨rfl, rfl⟩
      rw [hnx]
      go_wp2
      go_ret
      exact ⟨by rw [hf.out]; rfl, rfl⟩
end Go.Proofs.YtomgpkklbhdgiaaGreatDoor
