/- What strongroomref11.Put and Same return. Nothing is assumed. -/
import Derived.Test.YtolaojkcofbkhaaRuW
import Derived.Test.YtolaojkcofbkhaaPkRefA
namespace Go.Proofs.Ytolaojkcofbkhaa
open Go.RowKit

theorem bdQr {B : Nat} {a w : World} (n : Nat) (h : Below B a w) : Below B a (w.drewN n) := ⟨h.os, h.tape, h.output, h.size, h.block⟩
set_option maxRecDepth 100000 in
set_option maxHeartbeats 16000000 in
theorem rrput_c {w : World} {n c : Nat} {A : Option Addr} {L : List Int} (h : Lst w 0 w.heap.size A n (ics L)) (hn : n ≤ 10000) (hL : i64s L) :
    Calls Try.prog 9 #[.slice A n c] w (Row w (ruP L)) := by
  have HL := hid h
  have HN := hid hn
  have HLN : Hid (L.length = n) := hid (by have := h.1; rwa [ics_len] at this)
  have HL64 := hid hL
  clear h hn hL
  go_enter Try.func9, Try.ntmps9
  go_wp2_with fail
  go_loopg [3, 4, 5] n (fun kk nv bv iv wr => ∃ (r : List (Int × Nat)) (i : Nat) (B : Option Addr) (m d : Nat), nv = .int .i64 ((r.length : Nat) : Int) ∧ bv = .slice B m d ∧ iv = .int .i64 (i : Int) ∧ Hid (kk = n - i) ∧ Hid (i ≤ n) ∧ Hid (rsO L = r ++ rsO (L.drop i)) ∧ Hid (wr.ownsRow w.heap.size 5 1 (.slice B m d) m (bs (rnsB r))) ∧ Hid (Below w.heap.size w wr))
  case atStart => exact ⟨[], 0, none, 0, 0, rfl, rfl, rfl, hid rfl, hid (Nat.zero_le _), hid rfl, hid (own_nilrow _ _ _ _), hid (Below.refl _ _)⟩
  case round =>
    obtain ⟨r, i, B, m, d, rfl, rfl, rfl, hgk, hi, hRS, hO, hB⟩ := hrel
    rename World => wr
    have HRR : Hid (r.length ≤ 10000) := hid (by have := rs_len L; rw [hRS.out, List.length_append, HLN.out] at this; have := HN.out; omega)
    have HRB : Hid (m ≤ 200000) := hid (by
      have := hO.out.1
      rw [bs_len, Nat.mul_one] at this
      have h2 := rnsB_len r fun p hp => rs_ok HL64.out (by have := HN.out; have := HLN.out; omega) p (by rw [hRS.out]; exact List.mem_append_left _ hp)
      have := HRR.out
      omega)
    rcases Nat.lt_or_ge i n with hlt | hge
    · have HIN := hid hlt
      have HIL : Hid (i < L.length) := hid (by rw [HLN.out]; exact hlt)
      have HK := hid (List.drop_eq_getElem_cons HIL.out)
      obtain ⟨g, off, rfl, _, hg, ci⟩ := lst_i (HL.out.below hB.out (Nat.le_refl _)) HIL.out
      obtain ⟨x, hx⟩ : ∃ x, L[i]'HIL.out = x := ⟨_, rfl⟩
      have HXE := hid hx
      have HX : Hid (i64r x) := hid (by have := HL64.out _ (List.getElem_mem HIL.out); rw [hx] at this; exact this)
      rw [hx] at HK ci
      clear hx
      generalize L.drop (i + 1) = K' at HK
      have HKL : Hid ((x :: K').length = n - i) := hid (by rw [← HK.out, List.length_drop, HLN.out])
      have i1 : (0 : Int) ≤ (i : Int) := by omega
      have i2 : (i : Int) < (n : Int) := by omega
      have i3 : decide ((i : Int) < (n : Int)) = true := by simpa using hlt
      have i4 : decide (i < n) = true := decide_eq_true hlt
      clear hlt
      go_wp2_with fail
      go_loopg [6] (n - i) (fun k2 kv wq => ∃ (j q : Nat), kv = .int .i64 (q : Int) ∧ Hid (q = i + j) ∧ Hid (k2 = (n - i) - j) ∧ Hid (j ≤ n - i) ∧ Hid (∀ p (hp : p < (x :: K').length), p < j → (x :: K')[p] = x) ∧ Hid (Below wr.heap.size wr wq))
      case atStart => exact ⟨0, i, rfl, hid rfl, hid rfl, hid (Nat.zero_le _), hid (fun p _ h => absurd h (Nat.not_lt_zero p)), hid (Below.refl _ _)⟩
      case round =>
      obtain ⟨j, q, rfl, hq, hgk2, hj2, hF, hB2⟩ := hrel
      rename World => wq
      have ci0 := HL.out.below (hB.out.trans (hB2.out.mono hB.out.size)) (Nat.le_refl _)
      have hcx : wq.cell? ⟨g, off + i, none⟩ = some (.int .i64 x) := by
        obtain ⟨g', o', eg, _, _, ci2⟩ := lst_i ci0 (j := i) HIL.out
        injection eg with eg
        injection eg with eg1 eg2
        subst eg1 eg2
        rw [HXE.out] at ci2
        exact ci2
      rcases Nat.lt_or_ge j (n - i) with hlt2 | hge2
      · have hjk : j < (x :: K').length := by rw [HKL.out]; exact hlt2
        have hqn : q < n := by have := hq.out; omega
        have q1 : (0 : Int) ≤ (q : Int) := by omega
        have q2 : (q : Int) < (n : Int) := by omega
        have q3 : decide ((q : Int) < (n : Int)) = true := by simpa using hqn
        have q4 : decide (q < n) = true := decide_eq_true hqn
        have HJ2 := hid hlt2
        have hcq : wq.cell? ⟨g, off + q, none⟩ = some (.int .i64 (x :: K')[j]) := by
          obtain ⟨g', o', eg, _, _, cq⟩ := lst_i ci0 (j := q) (by rw [HLN.out]; exact hqn)
          injection eg with eg
          injection eg with eg1 eg2
          subst eg1 eg2
          have e : L[q]'(by rw [HLN.out]; exact hqn) = (x :: K')[j] := by
            have h1 : (L.drop i)[j]? = L[i + j]? := List.getElem?_drop
            rw [HK.out, ← hq.out, List.getElem?_eq_getElem hjk, List.getElem?_eq_getElem (by rw [HLN.out]; exact hqn)] at h1
            injection h1 with h1
            exact h1.symm
          rw [e] at cq
          exact cq
        clear ci0 hlt2 hqn
        by_cases hxy : (x :: K')[j] = x
        · have z : ((x :: K')[j] == x) = true := by rw [hxy]; simp
          have HF2 : Hid (∀ p (hp : p < (x :: K').length), p < j + 1 → (x :: K')[p] = x) := hid (fun p hp h => by
            rcases Nat.lt_or_ge p j with h1 | h1
            · exact hF.out p hp h1
            · have : p = j := by omega
              subst this; exact hxy)
          rw [hxy] at hcq
          have wq1 : wrap64 ((q : Int) + 1) = ((q + 1 : Nat) : Int) := by have := HN.out; have := hq.out; have := HJ2.out; unfold wrap64; omega
          clear z hxy hF hjk
          go_wp2_with fail
          go_quiet (fail)
          have HW := hid (bdQr nq hB2.out)
          generalize wq.drewN nq = W at *
          go_wp2_with fail
          go_roundg ((n - i) - (j + 1))
          case measure => exact meas_j hgk2.out HJ2.out
          case rel => exact ⟨j + 1, q + 1, by first | rfl | rw [wq1], hid (by rw [hq.out]; omega), hid rfl, hid HJ2.out, HF2, HW⟩
        have HXY := hid hxy
        obtain ⟨y, hy⟩ : ∃ y, (x :: K')[j] = y := ⟨_, rfl⟩
        rw [hy] at hcq hxy
        have z : (y == x) = false := beq_eq_false_iff_ne.2 hxy
        clear hxy hy
        have HLG : Hid (lgO (x :: K') = j ∧ 0 < j) := hid (by
          have hz : 0 < j := (by
            rcases Nat.eq_zero_or_pos j with h0 | h0
            · subst h0; exact absurd rfl HXY.out
            · exact h0)
          exact ⟨lgO_at (by have := HKL.out; have := hj2.out; omega) (fun p hp h => hF.out p hp h) hz (fun _ => HXY.out), hz⟩)
        have HST : Hid (rsO L = (r ++ [(x, j)]) ++ rsO (L.drop q)) := hid (by
          have := rs_step (r := r) (x := x) (K := K') (L := L) (by rw [← HK.out]; exact hRS.out)
          rw [HLG.out.1, ← HK.out, List.drop_drop] at this
          rw [hq.out]
          exact this)
        go_wp2_with fail
        go_quiet (fail)
        have HW := hid (bdQr nq hB2.out)
        generalize wq.drewN nq = W at *
        have HO1 := hid (own_bel hO.out HW.out)
        have HB1 := hid (hB.out.trans (HW.out.mono hB.out.size))
        have ci1 := HL.out.below HB1.out (Nat.le_refl _)
        obtain ⟨g', o', eg, _, _, ci2⟩ := lst_i ci1 (j := i) HIL.out
        injection eg with eg
        injection eg with eg1 eg2
        subst eg1 eg2
        rw [HXE.out] at ci2
        have sj : wrap64 ((q : Int) - (i : Int)) = (j : Int) := by have := hq.out; have := HN.out; have := hj2.out; unfold wrap64; omega
        have uj : IntKind.u64.wrap (j : Int) = (j : Int) := IntWalk.u64_in _ (by have := HN.out; have := hj2.out; omega)
        have HJN : Hid (j ≤ 10000) := hid (by have := HN.out; have := hj2.out; omega)
        have HSJ := hid (And.intro sj uj)
        clear ci ci1 hcx sj uj z hcq
        go_wp2_with fail
        refine (refFolded_c x _ HX.out.1 HX.out.2).mono ?_
        rintro e w1 ⟨rfl, rfl⟩
        go_wp2_with fail
        refine (refNatural_c (fold x) (fold x) _ (Nat.le_refl _) (fold_lt HX.out.1 HX.out.2)).mono ?_
        intro e w2 hr2
        obtain ⟨A2, n2, c2, rfl, hn2, hc2, ho2, hBB2, hb2⟩ := hr2.out
        have HN2 : Hid (n2 ≤ 10) := hid (by have := hn2.out; have := nat_len_u64 (fold_lt HX.out.1 HX.out.2); omega)
        have HO2 := hid (own_bel HO1.out hb2)
        have HBT2 := hid hBB2
        have HB2 := hid (HB1.out.trans (hb2.mono HB1.out.size))
        clear hr2 hn2 hc2 ho2 hBB2 hb2 HO1 HB1 ci2
        go_wp2_with (at_builtin; refine wpList_appL _ rfl _ _ 24 rfl w.heap.size 5 (.int .u8 0) 1 Try.underlying24 Try.info5 rfl _ _ _ _ rfl HO2.out _ _ _ _ _ _ rfl HBT2.out.lst (bs_one _) (by have := HRB.out; have := HN2.out; omega) (by have := HRB.out; have := HN2.out; unfold maxLen; omega) HB2.out.size ?_)
        intro A3 c3 w3 hc3 ho3 hg3 hb3 hz3
        have HO3 : Hid (w3.ownsRow w.heap.size 5 1 (.slice A3 (m + n2) c3) (m + n2) (bs (rnsB r ++ nat (fold x)))) := hid (by rw [bs_app]; exact ho3)
        have HB3 := hid (HB2.out.trans hb3)
        have sj := HSJ.out.1
        have uj := HSJ.out.2
        clear hc3 ho3 hg3 hb3 hz3 HO2 HBT2 HB2
        go_wp2_with fail
        refine (refNatural_c j j _ (Nat.le_refl _) (by have := HJN.out; omega)).mono ?_
        intro e w4 hr4
        obtain ⟨A4, n4, c4, rfl, hn4, hc4, ho4, hBB4, hb4⟩ := hr4.out
        have HN4 : Hid (n4 ≤ 10) := hid (by have := hn4.out; have := nat_len_u64 (n := j) (by have := HJN.out; omega); omega)
        have HO4 := hid (own_bel HO3.out hb4)
        have HBT4 := hid hBB4
        have HB4 := hid (HB3.out.trans (hb4.mono HB3.out.size))
        clear hr4 hn4 hc4 ho4 hBB4 hb4 HO3 HB3 sj uj
        go_wp2_with (at_builtin; refine wpList_appL _ rfl _ _ 24 rfl w.heap.size 5 (.int .u8 0) 1 Try.underlying24 Try.info5 rfl _ _ _ _ rfl HO4.out _ _ _ _ _ _ rfl HBT4.out.lst (bs_one _) (by have := HRB.out; have := HN2.out; have := HN4.out; omega) (by have := HRB.out; have := HN2.out; have := HN4.out; unfold maxLen; omega) HB4.out.size ?_)
        intro A5 c5 w5 hc5 ho5 hg5 hb5 hz5
        have HO5 : Hid (w5.ownsRow w.heap.size 5 1 (.slice A5 (m + n2 + n4) c5) (m + n2 + n4) (bs (rnsB (r ++ [(x, j)])))) := hid (by
          rw [rnsB_snoc]
          unfold rnB
          rw [← List.append_assoc, bs_app]
          exact ho5)
        have HB5 := hid (HB4.out.trans hb5)
        have wr1 : wrap64 (((r.length : Nat) : Int) + 1) = ((r.length + 1 : Nat) : Int) := by have := HRR.out; unfold wrap64; omega
        have HCNT : Hid ((r ++ [(x, j)]).length = r.length + 1) := hid (by simp)
        clear hc5 ho5 hg5 hb5 hz5 HO4 HBT4 HB4
        go_wp2_with fail
        go_roundg (n - q)
        case measure => have := hgk.out; have := hq.out; have := HLG.out.2; have := hj2.out; have := HIN.out; omega
        case rel => exact ⟨r ++ [(x, j)], q, A5, m + n2 + n4, c5, by rw [HCNT.out]; first | rfl | rw [wr1], rfl, rfl, hid rfl, hid (by have := hq.out; have := hj2.out; have := HIN.out; omega), HST, HO5, HB5⟩
      · have hqn : q = n := by have := hq.out; have := hj2.out; have := HIN.out; omega
        have q3 : decide ((q : Int) < (n : Int)) = false := by simp; omega
        have q4 : decide (q < n) = false := by simp; omega
        have q5 : ¬ (q : Int) < (n : Int) := by omega
        have HGE := hid hge2
        clear hge2 hqn ci0
        have HLG : Hid (lgO (x :: K') = j ∧ 0 < j) := hid (by
          have hz : 0 < j := (by have := HGE.out; have := HIN.out; omega)
          exact ⟨lgO_at (by have := HKL.out; have := hj2.out; omega) (fun p hp h => hF.out p hp h) hz (fun hi2 => absurd hi2 (by have := HKL.out; have := HGE.out; omega)), hz⟩)
        have HST : Hid (rsO L = (r ++ [(x, j)]) ++ rsO (L.drop q)) := hid (by
          have := rs_step (r := r) (x := x) (K := K') (L := L) (by rw [← HK.out]; exact hRS.out)
          rw [HLG.out.1, ← HK.out, List.drop_drop] at this
          rw [hq.out]
          exact this)
        go_wp2_with fail
        go_quiet (fail)
        have HW := hid (bdQr nq hB2.out)
        generalize wq.drewN nq = W at *
        have HO1 := hid (own_bel hO.out HW.out)
        have HB1 := hid (hB.out.trans (HW.out.mono hB.out.size))
        have ci1 := HL.out.below HB1.out (Nat.le_refl _)
        obtain ⟨g', o', eg, _, _, ci2⟩ := lst_i ci1 (j := i) HIL.out
        injection eg with eg
        injection eg with eg1 eg2
        subst eg1 eg2
        rw [HXE.out] at ci2
        have sj : wrap64 ((q : Int) - (i : Int)) = (j : Int) := by have := hq.out; have := HN.out; have := hj2.out; unfold wrap64; omega
        have uj : IntKind.u64.wrap (j : Int) = (j : Int) := IntWalk.u64_in _ (by have := HN.out; have := hj2.out; omega)
        have HJN : Hid (j ≤ 10000) := hid (by have := HN.out; have := hj2.out; omega)
        have HSJ := hid (And.intro sj uj)
        clear ci ci1 hcx sj uj q5
        go_wp2_with fail
        refine (refFolded_c x _ HX.out.1 HX.out.2).mono ?_
        rintro e w1 ⟨rfl, rfl⟩
        go_wp2_with fail
        refine (refNatural_c (fold x) (fold x) _ (Nat.le_refl _) (fold_lt HX.out.1 HX.out.2)).mono ?_
        intro e w2 hr2
        obtain ⟨A2, n2, c2, rfl, hn2, hc2, ho2, hBB2, hb2⟩ := hr2.out
        have HN2 : Hid (n2 ≤ 10) := hid (by have := hn2.out; have := nat_len_u64 (fold_lt HX.out.1 HX.out.2); omega)
        have HO2 := hid (own_bel HO1.out hb2)
        have HBT2 := hid hBB2
        have HB2 := hid (HB1.out.trans (hb2.mono HB1.out.size))
        clear hr2 hn2 hc2 ho2 hBB2 hb2 HO1 HB1 ci2
        go_wp2_with (at_builtin; refine wpList_appL _ rfl _ _ 24 rfl w.heap.size 5 (.int .u8 0) 1 Try.underlying24 Try.info5 rfl _ _ _ _ rfl HO2.out _ _ _ _ _ _ rfl HBT2.out.lst (bs_one _) (by have := HRB.out; have := HN2.out; omega) (by have := HRB.out; have := HN2.out; unfold maxLen; omega) HB2.out.size ?_)
        intro A3 c3 w3 hc3 ho3 hg3 hb3 hz3
        have HO3 : Hid (w3.ownsRow w.heap.size 5 1 (.slice A3 (m + n2) c3) (m + n2) (bs (rnsB r ++ nat (fold x)))) := hid (by rw [bs_app]; exact ho3)
        have HB3 := hid (HB2.out.trans hb3)
        have sj := HSJ.out.1
        have uj := HSJ.out.2
        clear hc3 ho3 hg3 hb3 hz3 HO2 HBT2 HB2
        go_wp2_with fail
        refine (refNatural_c j j _ (Nat.le_refl _) (by have := HJN.out; omega)).mono ?_
        intro e w4 hr4
        obtain ⟨A4, n4, c4, rfl, hn4, hc4, ho4, hBB4, hb4⟩ := hr4.out
        have HN4 : Hid (n4 ≤ 10) := hid (by have := hn4.out; have := nat_len_u64 (n := j) (by have := HJN.out; omega); omega)
        have HO4 := hid (own_bel HO3.out hb4)
        have HBT4 := hid hBB4
        have HB4 := hid (HB3.out.trans (hb4.mono HB3.out.size))
        clear hr4 hn4 hc4 ho4 hBB4 hb4 HO3 HB3 sj uj
        go_wp2_with (at_builtin; refine wpList_appL _ rfl _ _ 24 rfl w.heap.size 5 (.int .u8 0) 1 Try.underlying24 Try.info5 rfl _ _ _ _ rfl HO4.out _ _ _ _ _ _ rfl HBT4.out.lst (bs_one _) (by have := HRB.out; have := HN2.out; have := HN4.out; omega) (by have := HRB.out; have := HN2.out; have := HN4.out; unfold maxLen; omega) HB4.out.size ?_)
        intro A5 c5 w5 hc5 ho5 hg5 hb5 hz5
        have HO5 : Hid (w5.ownsRow w.heap.size 5 1 (.slice A5 (m + n2 + n4) c5) (m + n2 + n4) (bs (rnsB (r ++ [(x, j)])))) := hid (by
          rw [rnsB_snoc]
          unfold rnB
          rw [← List.append_assoc, bs_app]
          exact ho5)
        have HB5 := hid (HB4.out.trans hb5)
        have wr1 : wrap64 (((r.length : Nat) : Int) + 1) = ((r.length + 1 : Nat) : Int) := by have := HRR.out; unfold wrap64; omega
        have HCNT : Hid ((r ++ [(x, j)]).length = r.length + 1) := hid (by simp)
        clear hc5 ho5 hg5 hb5 hz5 HO4 HBT4 HB4
        go_wp2_with fail
        go_roundg (n - q)
        case measure => have := hgk.out; have := hq.out; have := HLG.out.2; have := hj2.out; have := HIN.out; omega
        case rel => exact ⟨r ++ [(x, j)], q, A5, m + n2 + n4, c5, by rw [HCNT.out]; first | rfl | rw [wr1], rfl, rfl, hid rfl, hid (by have := hq.out; have := hj2.out; have := HIN.out; omega), HST, HO5, HB5⟩
    · have hin : i = n := by have := hi.out; omega
      subst hin
      have HRE : Hid (rsO L = r) := hid (by
        have := hRS.out
        rw [List.drop_of_length_le (Nat.le_of_eq HLN.out)] at this
        rw [this]
        exact List.append_nil r)
      have i2 : ¬ (i : Int) < (i : Int) := by omega
      have ur : IntKind.u64.wrap ((r.length : Nat) : Int) = ((r.length : Nat) : Int) := IntWalk.u64_in _ (by have := HRR.out; omega)
      clear hge hi hgk hRS
      go_wp2_with fail
      refine (refNatural_c r.length r.length _ (Nat.le_refl _) (by have := HRR.out; omega)).mono ?_
      intro e w4 hr4
      obtain ⟨A4, n4, c4, rfl, hn4, hc4, ho4, hB4, hb4⟩ := hr4.out
      have HN4 : Hid (n4 = (nat r.length).length ∧ n4 ≤ 10) := hid (by have := hn4.out; have := nat_len_u64 (n := r.length) (by have := HRR.out; omega); omega)
      have HBT : Hid (Lst w4 0 w4.heap.size B m (bs (rnsB r))) := hid ((Lst.own (own_bel hO.out hb4)).wide (Nat.zero_le _) (Nat.le_refl _))
      have HO4b : Hid (w4.ownsRow w.heap.size 5 1 (.slice A4 n4 c4) n4 (bs (nat r.length))) := hid (own_lower ho4 hB.out.size)
      have HB4 := hid (hB.out.trans (hb4.mono hB.out.size))
      clear hr4 hn4 hc4 ho4 hB4 hb4 hO hB
      go_wp2_with (at_builtin; refine wpList_appL _ rfl _ _ 24 rfl w.heap.size 5 (.int .u8 0) 1 Try.underlying24 Try.info5 rfl _ _ _ _ rfl HO4b.out _ _ _ _ _ _ rfl HBT.out (bs_one _) (by have := HRB.out; have := HN4.out; omega) (by have := HRB.out; have := HN4.out; unfold maxLen; omega) HB4.out.size ?_)
      intro A5 c5 w5 hc5 ho5 hg5 hb5 hz5
      have HM : Hid (m = (rnsB r).length) := hid (by have := HBT.out.1; rw [bs_len] at this; exact this.symm)
      have HPL : Hid ((ruP L).length = n4 + m) := hid (by unfold ruP; rw [HRE.out, List.length_append, HN4.out.1, HM.out])
      have HPB : Hid (bs (ruP L) = bs (nat r.length) ++ bs (rnsB r)) := hid (by unfold ruP; rw [HRE.out, bs_app])
      go_wp2
      go_ret
      refine ⟨A5, c5, ?_, ?_, ?_, HB4.out.trans hb5⟩
      · rw [HPL.out]; rfl
      · rw [HPL.out]; exact hc5
      · rw [HPL.out, HPB.out]; exact ho5
theorem same_stepI {a b : List Int} {j : Nat} (ha : j < a.length) (hb : j < b.length) (h : a.take j = b.take j) : (a[j] = b[j] → a.take (j + 1) = b.take (j + 1)) ∧ (a[j] ≠ b[j] → a ≠ b) := by
  refine ⟨fun e => by rw [List.take_succ_eq_append_getElem ha, List.take_succ_eq_append_getElem hb, h, e], fun e e2 => e (by subst e2; rfl)⟩
set_option maxRecDepth 100000 in
set_option maxHeartbeats 8000000 in
theorem isame_c {w : World} {n m c d : Nat} {A B : Option Addr} {a b : List Int} (ha : Lst w 0 w.heap.size A n (ics a)) (hb : Lst w 0 w.heap.size B m (ics b)) (hn : n ≤ 1000000) (_hm : m ≤ 1000000) :
    Calls Try.prog 10 #[.slice A n c, .slice B m d] w fun e w' => e = .returned (.bool (decide (a = b))) ∧ Below w.heap.size w w' := by
  have hla : a.length = n := by have := ha.1; rwa [ics_len] at this
  have hlb : b.length = m := by have := hb.1; rwa [ics_len] at this
  have HA := hid ha
  have HB := hid hb
  have HN := hid hn
  clear ha hb hn
  by_cases hl : n = m
  · subst hl
    have e1 : ((n : Int) != (n : Int)) = false := by simp
    have HL := hid (And.intro hla hlb)
    clear hla hlb
    go_enter Try.func10, Try.ntmps10
    go_wp2_with fail
    clear e1
    go_loopg [13] n (fun kk iv wr => ∃ j : Nat, iv = .int .i64 (j : Int) ∧ Hid (kk = n - j) ∧ Hid (j ≤ n) ∧ Hid (Below w.heap.size w wr) ∧ Hid (a.take j = b.take j))
    case atStart => exact ⟨0, rfl, hid rfl, hid (Nat.zero_le _), hid (Below.refl _ _), hid rfl⟩
    case round =>
      obtain ⟨j, rfl, hgk, hj, hBW, hT⟩ := hrel
      rename World => wr
      rcases Nat.lt_or_ge j n with hlt | hge
      · have hla2 : j < a.length := by rw [HL.out.1]; exact hlt
        have hlb2 : j < b.length := by rw [HL.out.2]; exact hlt
        have j1 : (0 : Int) ≤ (j : Int) := by omega
        have j2 : (j : Int) < (n : Int) := by omega
        have j3 : decide ((j : Int) < (n : Int)) = true := by simpa using hlt
        have wj : wrap64 ((j : Int) + 1) = ((j + 1 : Nat) : Int) := by have := HN.out; unfold wrap64; omega
        have HJ := hid hlt
        obtain ⟨ga, oa, rfl, _, hga, hca⟩ := lst_i (HA.out.below hBW.out (Nat.le_refl _)) hla2
        obtain ⟨gb, ob, rfl, _, hgb, hcb⟩ := lst_i (HB.out.below hBW.out (Nat.le_refl _)) hlb2
        have HS := hid (same_stepI hla2 hlb2 hT.out)
        generalize a[j] = x at *
        generalize b[j] = y at *
        clear hlt hla2 hlb2
        by_cases hxy : x = y
        · have z : (x != y) = false := by rw [hxy]; simp
          have HT := hid (HS.out.1 hxy)
          subst hxy
          go_wp2_with fail
          go_quiet (fail)
          have HBW := hid (bdQr nq hBW.out)
          generalize wr.drewN nq = W at *
          go_wp2_with fail
          go_roundg (n - (j + 1))
          case measure => exact meas_j hgk.out HJ.out
          case rel => exact ⟨j + 1, by first | rfl | rw [wj], hid rfl, hid HJ.out, HBW, HT⟩
        · have z : (x != y) = true := by simpa using hxy
          have z2 : (x == y) = false := beq_eq_false_iff_ne.2 hxy
          have z3 : (!(x == y)) = true := by rw [z2]; rfl
          have HD : Hid (decide (a = b) = false) := hid (decide_eq_false (HS.out.2 hxy))
          go_wp2_with fail
          go_quiet (fail)
          go_wp2
          go_ret
          exact ⟨by rw [HD.out]; rfl, bdQr _ hBW.out⟩
      · have hjn : j = n := by have := hj.out; omega
        subst hjn
        have j2 : ¬ (j : Int) < (j : Int) := by omega
        have HD : Hid (decide (a = b) = true) := hid (decide_eq_true (by have := hT.out; rwa [List.take_of_length_le (Nat.le_of_eq HL.out.1), List.take_of_length_le (Nat.le_of_eq HL.out.2)] at this))
        clear hge hj hgk
        go_wp2
        go_ret
        exact ⟨by rw [HD.out]; rfl, hBW.out⟩
  · have e1 : ((n : Int) != (m : Int)) = true := by simp; omega
    have e2 : ¬ (n : Int) = (m : Int) := by omega
    have HD : Hid (decide (a = b) = false) := hid (decide_eq_false fun e => hl (by rw [← hla, ← hlb, e]))
    go_enter Try.func10, Try.ntmps10
    go_wp2
    go_ret
    exact ⟨by rw [HD.out]; rfl, Below.refl _ _⟩
end Go.Proofs.Ytolaojkcofbkhaa
