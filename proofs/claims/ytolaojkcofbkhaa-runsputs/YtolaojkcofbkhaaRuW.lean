/- What package runs returns: longOf, Put. Nothing is assumed. -/
import Derived.Test.YtolaojkcofbkhaaRuMath
import Derived.Test.YtolaojkcofbkhaaPkW1
import Derived.Test.YtolaojkcofbkhaaMemO
import Derived.BigQuiet
namespace Go.Proofs.Ytolaojkcofbkhaa
open Go.RowKit

theorem Try.infoI_ : (Try.prog.info? 3).map (fun i => (i.zero, i.size, i.bytes)) = some (some (.int .i64 0), 1, 8) := by kernel_rfl
theorem lst_i {w : World} {lo hi n : Nat} {A : Option Addr} {l : List Int} (h : Lst w lo hi A n (ics l)) {j : Nat} (hj : j < l.length) : ∃ g off, A = some ⟨g, off, none⟩ ∧ lo ≤ g ∧ g < hi ∧ w.cell? ⟨g, off + j, none⟩ = some (.int .i64 l[j]) := by
  have hl := h.1
  rw [ics_len] at hl
  obtain ⟨g, off, e, h1, h2, hc⟩ := h.at_ (k := j) (by omega)
  exact ⟨g, off, e, h1, h2, hc.trans (by simp [ics])⟩
theorem lst_dropI {w : World} {lo hi n : Nat} {g off : Nat} {l : List Int} (h : Lst w lo hi (some ⟨g, off, none⟩) n (ics l)) (k : Nat) : Lst w lo hi (some ⟨g, off + k, none⟩) (n - k) (ics (l.drop k)) := by
  have hl := h.1
  rw [ics_len] at hl
  refine ⟨by rw [ics_len, List.length_drop]; omega, fun hn => ?_⟩
  obtain ⟨g', off', e, h1, h2, hc⟩ := h.2 (by omega)
  injection e with e
  injection e with e1 e2
  subst e1 e2
  refine ⟨g, off + k, rfl, h1, h2, fun j u hu => ?_⟩
  have e : ics (l.drop k) = (ics l).drop k := by simp [ics, List.map_drop]
  rw [e, List.getElem?_drop] at hu
  rw [Nat.add_assoc]
  exact hc _ u hu
set_option maxRecDepth 100000 in
set_option maxHeartbeats 8000000 in
theorem longOf_c {w : World} {n c : Nat} {A : Option Addr} {x : Int} {l : List Int} (h : Lst w 0 w.heap.size A n (ics (x :: l))) (hn : n ≤ 1000000) :
    Calls Try.prog 12 #[.slice A n c] w fun e w' => e = .returned (.int .i64 ((lgO (x :: l) : Nat) : Int)) ∧ w = w' := by
  have HLL : Hid (n = (x :: l).length) := hid (by have := h.1; rw [ics_len] at this; exact this.symm)
  obtain ⟨g0, o0, rfl, _, _, hc0⟩ := lst_i h (j := 0) (by simp)
  have HL := hid h
  have HN := hid hn
  rw [Nat.add_zero] at hc0
  have c0 : w.cell? ⟨g0, o0, none⟩ = some (.int .i64 x) := hc0
  have n0 : 0 < n := by rw [HLL.out]; simp
  clear h hn hc0
  go_enter Try.func12, Try.ntmps12
  go_wp2_with fail
  go_loopg [7] n (fun kk iv wr => ∃ j : Nat, iv = .int .i64 (j : Int) ∧ Hid (kk = n - j) ∧ Hid (j ≤ n) ∧ Hid (∀ k (hk : k < (x :: l).length), k < j → (x :: l)[k] = x) ∧ wr = w)
  case atStart => exact ⟨0, rfl, hid rfl, hid (Nat.zero_le _), hid (fun k _ hk => absurd hk (Nat.not_lt_zero k)), rfl⟩
  case round =>
    obtain ⟨j, rfl, hgk, hj, hF, rfl⟩ := hrel
    rename World => w
    rcases Nat.lt_or_ge j n with hlt | hge
    · have hjl : j < (x :: l).length := by rw [← HLL.out]; exact hlt
      have j1 : (0 : Int) ≤ (j : Int) := by omega
      have j2 : (j : Int) < (n : Int) := by omega
      have j3 : decide ((j : Int) < (n : Int)) = true := by simpa using hlt
      have j4 : decide (j < n) = true := decide_eq_true hlt
      have wj : wrap64 ((j : Int) + 1) = ((j + 1 : Nat) : Int) := by have := HN.out; unfold wrap64; omega
      obtain ⟨g, off, e, _, _, hcell⟩ := lst_i HL.out hjl
      injection e with e
      injection e with e1 e2
      subst e1 e2
      have HJ := hid hlt
      by_cases hxy : (x :: l)[j] = x
      · have z : ((x :: l)[j] != x) = false := by rw [hxy]; simp
        have HF2 : Hid (∀ k (hk : k < (x :: l).length), k < j + 1 → (x :: l)[k] = x) := hid (fun k hk h => by
          rcases Nat.lt_or_ge k j with h1 | h1
          · exact hF.out k hk h1
          · have : k = j := by omega
            subst this; exact hxy)
        rw [hxy] at hcell
        clear z hxy hlt
        go_wp2_with fail
        go_roundg (n - (j + 1))
        case measure => exact meas_j hgk.out HJ.out
        case rel => exact ⟨j + 1, by first | rfl | rw [wj], hid rfl, hid HJ.out, HF2, rfl⟩
      · have HLG : Hid (lgO (x :: l) = j) := hid (lgO_at (by rw [← HLL.out]; omega) (fun k hk h => hF.out k hk h) (by
          rcases Nat.eq_zero_or_pos j with h0 | h0
          · subst h0; exact absurd rfl hxy
          · exact h0) (fun hi => hxy))
        generalize (x :: l)[j] = y at *
        have z : (y != x) = true := by simpa using hxy
        have z2 : (y == x) = false := beq_eq_false_iff_ne.2 hxy
        clear hlt
        go_wp2_with fail
        go_ret
        exact ⟨congrArg (fun z : Nat => Ending.returned (Value.int .i64 (z : Int))) HLG.out.symm, rfl⟩
    · have hjn : j = n := by have := hj.out; omega
      subst hjn
      have j2 : ¬ (j : Int) < (j : Int) := by omega
      have HLG : Hid (lgO (x :: l) = j) := hid (lgO_at (by rw [← HLL.out]; exact Nat.le_refl _) (fun k hk h => hF.out k hk h) n0 (fun hi => absurd hi (by rw [← HLL.out]; omega)))
      clear hge hj hgk
      go_wp2
      go_ret
      exact ⟨congrArg (fun z : Nat => Ending.returned (Value.int .i64 (z : Int))) HLG.out.symm, rfl⟩
theorem rs_step {r : List (Int × Nat)} {L K : List Int} {x : Int} (h : rsO L = r ++ rsO (x :: K)) : rsO L = (r ++ [(x, lgO (x :: K))]) ++ rsO ((x :: K).drop (lgO (x :: K))) := by
  rw [h, rs_cut, List.append_assoc]; rfl
set_option maxRecDepth 100000 in
set_option maxHeartbeats 16000000 in
theorem rput_c {w : World} {n c : Nat} {A : Option Addr} {L : List Int} (h : Lst w 0 w.heap.size A n (ics L)) (hnc : n ≤ c) (hn : n ≤ 10000) (hL : i64s L) :
    Calls Try.prog 7 #[.slice A n c] w (Row w (ruP L)) := by
  have HH := hid h
  have HN := hid hn
  have HLN : Hid (L.length = n) := hid (by have := h.1; rwa [ics_len] at this)
  have HL64 := hid hL
  have HNC := hid hnc
  clear h hn hL hnc
  go_enter Try.func7, Try.ntmps7
  go_wp2_with fail
  go_loopg [0, 3, 4] n (fun kk lv bv cv wr => ∃ (r : List (Int × Nat)) (K : List Int) (A' : Option Addr) (c : Nat) (B : Option Addr) (m d : Nat), lv = .slice A' K.length c ∧ bv = .slice B m d ∧ cv = .int .u64 ((r.length : Nat) : Int) ∧ Hid (kk = K.length) ∧ Hid (rsO L = r ++ rsO K) ∧ Hid (K.length ≤ n) ∧ Hid (K.length ≤ c) ∧ Hid (Lst w 0 w.heap.size A' K.length (ics K)) ∧ Hid (wr.ownsRow w.heap.size 5 1 (.slice B m d) m (bs (rnsB r))) ∧ Hid (Below w.heap.size w wr) ∧ Hid (∀ x ∈ K, x ∈ L))
  case atStart => exact ⟨[], L, A, c, none, 0, 0, by rw [HLN.out], rfl, rfl, hid HLN.out.symm, hid rfl, hid (Nat.le_of_eq HLN.out), hid (by rw [HLN.out]; exact HNC.out), hid (by rw [HLN.out]; exact HH.out), hid (own_nilrow _ _ _ _), hid (Below.refl _ _), hid (fun _ h => h)⟩
  case round =>
    obtain ⟨r, K, A', c, B, m, d, rfl, rfl, rfl, hgk, hRS, hKn, hKc, hLK, hO, hB, hIn⟩ := hrel
    rename World => wr
    have HRL : Hid (r.length + (rsO K).length ≤ n) := hid (by have := rs_len L; rw [hRS.out, List.length_append, HLN.out] at this; exact this)
    have HML : Hid (m ≤ 20 * r.length) := hid (by
      have := hO.out.1
      rw [bs_len, Nat.mul_one] at this
      rw [← this]
      exact rnsB_len r fun p hp => rs_ok HL64.out (by have := HN.out; have := HLN.out; omega) p (by rw [hRS.out]; exact List.mem_append_left _ hp))
    cases K with
    | cons x K' =>
      have HX : Hid (i64r x) := hid (HL64.out x (hIn.out x (by simp)))
      have HKPOS : Hid (0 < lgO (x :: K') ∧ lgO (x :: K') ≤ (x :: K').length) := hid ⟨Nat.succ_pos _, lgO_le _⟩
      have HSTEP := hid (rs_step hRS.out)
      have hlong := longOf_c (w := wr) (c := c) ((hLK.out.below hB.out (Nat.le_refl _)).wide (Nat.le_refl _) hB.out.size) (Nat.le_trans hKn.out (Nat.le_trans HN.out (by decide)))
      obtain ⟨g0, o0, rfl, _, hg0, hc0⟩ := lst_i (hLK.out.below hB.out (Nat.le_refl _)) (j := 0) (by simp)
      rw [Nat.add_zero] at hc0
      have HC0 : Hid (wr.cell? ⟨g0, o0, none⟩ = some (.int .i64 x)) := hid hc0
      have HG0 := hid hg0
      have HLTM : Hid (((x :: K').drop (lgO (x :: K'))).length < (x :: K').length) := hid (by
        rw [List.length_drop]
        have := HKPOS.out
        omega)
      have HLD := hid (lst_dropI hLK.out (lgO (x :: K')))
      have HIN2 : Hid (∀ y ∈ (x :: K').drop (lgO (x :: K')), y ∈ L) := hid (fun y hy => hIn.out y (List.drop_subset _ _ hy))
      have HKL : Hid (((x :: K').drop (lgO (x :: K'))).length = (x :: K').length - lgO (x :: K')) := hid (List.length_drop)
      have p1 : decide ((0 : Int) < (((x :: K').length : Nat) : Int)) = true := by simp
      have p2 : decide (0 < (x :: K').length) = true := by simp
      obtain ⟨N, hN⟩ : ∃ N, N = (x :: K').length := ⟨_, rfl⟩
      have p3 : 0 < N := by rw [hN]; simp
      rw [← hN] at hlong HLD HKL p1 p2 hKn hKc HKPOS HLTM hgk ⊢
      have HNE := hid hN
      generalize hk : lgO (x :: K') = k at *
      generalize (x :: K').drop k = K2 at *
      clear hN hk hc0 hg0 hLK hIn hRS
      go_wp2_with fail
      refine hlong.mono ?_
      rintro e w1 ⟨rfl, rfl⟩
      have c0 := HC0.out
      have p4 : (0 : Int) < (N : Int) := by omega
      clear hlong
      go_wp2_with fail
      refine (number_c none 0 0 x [] _ (Bts.nil _ _ _ _) (by decide) HX.out.1 HX.out.2).mono ?_
      intro e w2 hr2
      obtain ⟨A2, n2, c2, rfl, hn2, hc2, ho2, hB2, hb2⟩ := hr2.out
      rw [List.nil_append] at hn2 ho2 hB2
      have HN2 : Hid (n2 ≤ 10) := hid (by have := hn2.out; have := nat_len_u64 (fold_lt HX.out.1 HX.out.2); omega)
      have HO2 := hid (own_bel hO.out hb2)
      have HBT2 := hid hB2
      have HB2 := hid (hB.out.trans (hb2.mono hB.out.size))
      have HRB : Hid (m ≤ 200000) := hid (by have := HML.out; have := HRL.out; have := HN.out; omega)
      clear hr2 hn2 hc2 ho2 hB2 hb2 hO hB
      go_wp2_with (at_builtin; refine wpList_appL _ rfl _ _ 24 rfl w.heap.size 5 (.int .u8 0) 1 Try.underlying24 Try.info5 rfl _ _ _ _ rfl HO2.out _ _ _ _ _ _ rfl HBT2.out.lst (bs_one _) (by have := HRB.out; have := HN2.out; omega) (by have := HRB.out; have := HN2.out; unfold maxLen; omega) HB2.out.size ?_)
      intro A3 c3 w3 hc3 ho3 hg3 hb3 hz3
      have HO3 : Hid (w3.ownsRow w.heap.size 5 1 (.slice A3 (m + n2) c3) (m + n2) (bs (rnsB r ++ nat (fold x)))) := hid (by rw [bs_app]; exact ho3)
      have HB3 := hid (HB2.out.trans hb3)
      have w64k : IntKind.u64.wrap (k : Int) = (k : Int) := IntWalk.u64_in _ (by have := HKPOS.out; have := hKn.out; have := HN.out; omega)
      clear hc3 ho3 hg3 hb3 hz3 HO2 HBT2 HB2
      go_wp2_with fail
      refine (natural_c none 0 0 k [] _ (Bts.nil _ _ _ _) (by decide) (by have := HKPOS.out; have := hKn.out; have := HN.out; omega)).mono ?_
      intro e w4 hr4
      obtain ⟨A4, n4, c4, rfl, hn4, hc4, ho4, hB4, hb4⟩ := hr4.out
      rw [List.nil_append] at hn4 ho4 hB4
      have HN4 : Hid (n4 ≤ 10) := hid (by have := hn4.out; have := nat_len_u64 (n := k) (by have := HKPOS.out; have := hKn.out; have := HN.out; omega); omega)
      have HO4 := hid (own_bel HO3.out hb4)
      have HBT4 := hid hB4
      have HB4 := hid (HB3.out.trans (hb4.mono HB3.out.size))
      clear hr4 hn4 hc4 ho4 hB4 hb4 HO3 HB3 w64k
      go_wp2_with (at_builtin; refine wpList_appL _ rfl _ _ 24 rfl w.heap.size 5 (.int .u8 0) 1 Try.underlying24 Try.info5 rfl _ _ _ _ rfl HO4.out _ _ _ _ _ _ rfl HBT4.out.lst (bs_one _) (by have := HRB.out; have := HN2.out; have := HN4.out; omega) (by have := HRB.out; have := HN2.out; have := HN4.out; unfold maxLen; omega) HB4.out.size ?_)
      intro A5 c5 w5 hc5 ho5 hg5 hb5 hz5
      have HO5 : Hid (w5.ownsRow w.heap.size 5 1 (.slice A5 (m + n2 + n4) c5) (m + n2 + n4) (bs (rnsB (r ++ [(x, k)])))) := hid (by
        rw [rnsB_snoc]
        unfold rnB
        rw [← List.append_assoc, bs_app]
        exact ho5)
      have HB5 := hid (HB4.out.trans hb5)
      have HIR2 := HIN2
      have k0 : (0 : Int) ≤ (k : Int) := by omega
      have k1 : (k : Int) ≤ (N : Int) := by have := HKPOS.out; omega
      have k2 : (k : Int) ≤ (c : Int) := by have := HKPOS.out; have := hKc.out; omega
      have k3 : k ≤ N := HKPOS.out.2
      have k4 : k ≤ c := by have := hKc.out; omega
      have ks : ((N : Int) - (k : Int)) = ((N - k : Nat) : Int) := by omega
      have HRR : Hid (r.length ≤ 10000) := hid (by have := HRL.out; have := HN.out; omega)
      have wr1 : IntKind.u64.wrap (((r.length : Nat) : Int) + 1) = ((r.length + 1 : Nat) : Int) := by have := HRR.out; rw [IntWalk.u64_in _ (by omega)]; omega
      have HCNT : Hid ((r ++ [(x, k)]).length = r.length + 1) := hid (by simp)
      clear hc5 ho5 hg5 hb5 hz5 HO4 HBT4 HB4 ks
      by_cases hcap : c = k
      · have HE : Hid (K2.length = 0) := hid (by rw [HKL.out]; have := hKc.out; omega)
        have HLK2 : Hid (Lst w 0 w.heap.size (some ⟨g0, o0, none⟩) K2.length (ics K2)) := hid (by
          rw [HE.out]
          have : K2 = [] := List.eq_nil_of_length_eq_zero HE.out
          rw [this]
          exact ⟨rfl, fun h => absurd h (by decide)⟩)
        subst hcap
        go_wp2_with fail
        go_roundg (K2.length)
        case measure => have := hgk.out; have := HLTM.out; omega
        case rel => exact ⟨r ++ [(x, c)], K2, some ⟨g0, o0, none⟩, 0, A5, m + n2 + n4, c5, by rw [HKL.out], rfl, by rw [HCNT.out]; first | rfl | rw [wr1], hid rfl, HSTEP, hid (by rw [HE.out]; exact Nat.zero_le _), hid (by rw [HE.out]; exact Nat.zero_le _), HLK2, HO5, HB5, HIR2⟩
      · go_wp2_with fail
        go_roundg (K2.length)
        case measure => have := hgk.out; have := HLTM.out; omega
        case rel => exact ⟨r ++ [(x, k)], K2, some ⟨g0, o0 + k, none⟩, c - k, A5, m + n2 + n4, c5, by rw [HKL.out], rfl, by rw [HCNT.out]; first | rfl | rw [wr1], hid rfl, HSTEP, hid (by rw [HKL.out]; have := hKn.out; omega), hid (by rw [HKL.out]; have := hKc.out; omega), hid (by rw [HKL.out]; exact HLD.out), HO5, HB5, HIR2⟩
    | nil =>
      have HRE : Hid (rsO L = r) := hid (by rw [hRS.out]; show r ++ [] = r; rw [List.append_nil])
      have HRR : Hid (r.length ≤ 10000) := hid (by have := HRL.out; have := HN.out; omega)
      have e0 : ([] : List Int).length = 0 := rfl
      rw [e0]
      have HRB : Hid (m ≤ 200000) := hid (by have := HML.out; have := HRR.out; omega)
      clear hgk hRS hKn hKc hLK hIn HRL
      go_wp2_with fail
      refine (natural_c none 0 0 r.length [] _ (Bts.nil _ _ _ _) (by decide) (by have := HRR.out; omega)).mono ?_
      intro e w4 hr4
      obtain ⟨A4, n4, c4, rfl, hn4, hc4, ho4, hB4, hb4⟩ := hr4.out
      rw [List.nil_append] at hn4 ho4 hB4
      have HN4 : Hid (n4 = (nat r.length).length ∧ n4 ≤ 10) := hid (by have := hn4.out; have := nat_len_u64 (n := r.length) (by have := HRR.out; omega); omega)
      have HBT : Hid (Lst w4 0 w4.heap.size B m (bs (rnsB r))) := hid ((Lst.own (own_bel hO.out hb4)).wide (Nat.zero_le _) (Nat.le_refl _))
      have HO4 := hid (own_zero ho4)
      have HO4b : Hid (w4.ownsRow w.heap.size 5 1 (.slice A4 n4 c4) n4 (bs (nat r.length))) := hid (own_lower ho4 hB.out.size)
      have HB4 := hid (hB.out.trans (hb4.mono hB.out.size))
      clear hr4 hn4 hc4 ho4 hB4 hb4 hO hB
      go_wp2_with (at_builtin; refine wpList_appL _ rfl _ _ 24 rfl w.heap.size 5 (.int .u8 0) 1 Try.underlying24 Try.info5 rfl _ _ _ _ rfl HO4b.out _ _ _ _ _ _ rfl HBT.out (bs_one _) (by have := HRB.out; have := HN4.out; omega) (by have := HRB.out; have := HN4.out; unfold maxLen; omega) HB4.out.size ?_)
      intro A5 c5 w5 hc5 ho5 hg5 hb5 hz5
      have HM : Hid (m = (rnsB r).length) := hid (by have := HBT.out.1; rw [bs_len] at this; exact this.symm)
      have HPL : Hid ((ruP L).length = n4 + m) := hid (by unfold ruP; rw [HRE.out, List.length_append, HN4.out.1, HM.out])
      have HPB : Hid (bs (ruP L) = bs (nat r.length) ++ bs (rnsB r)) := hid (by unfold ruP; rw [HRE.out, bs_app])
      go_wp2
      go_ret
      refine ⟨A5, c5, ?_, ?_, ?_, HB4.out.trans hb5⟩
      · rw [HPL.out]; rfl
      · rw [HPL.out]; exact hc5
      · rw [HPL.out, HPB.out]; exact ho5
end Go.Proofs.Ytolaojkcofbkhaa
