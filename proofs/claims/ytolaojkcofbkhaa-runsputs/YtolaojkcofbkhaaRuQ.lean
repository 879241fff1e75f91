/- What strongroomref11.Get returns. Nothing is assumed. -/
import Derived.Test.YtolaojkcofbkhaaRuGt
import Derived.Test.YtolaojkcofbkhaaPkRef
namespace Go.Proofs.Ytolaojkcofbkhaa
open Go.RowKit

theorem ru_str {w : World} {lo hi n c : Nat} {A : Option Addr} {l : List UInt8} (h : Bts w lo hi A n l) : (convert 24 9 (.slice A n c)).run Try.prog w = .ok (.string (str l)) w :=
  run_str (P := Try.prog) (c := c) 24 9 5 Try.underlying24 Try.underlying5 Try.underlying9 h
theorem i64s_rep {l : List Int} {x : Int} (h : i64s l) (hx : i64r x) (k : Nat) : i64s (l ++ List.replicate k x) := fun y hy => by
  rcases List.mem_append.1 hy with e | e
  · exact h y e
  · rw [(List.mem_replicate.1 e).2]; exact hx
theorem i64r_unfold {u : Nat} (h : u < 18446744073709551616) : i64r (unfold_ u) := by
  unfold i64r unfold_
  split <;> constructor <;> omega
set_option maxRecDepth 100000 in
set_option maxHeartbeats 16000000 in
theorem rrget_c {w : World} {m c : Nat} {A : Option Addr} {b : List UInt8} (h : Bts w 0 w.heap.size A m b) (hmc : m ≤ c) (hm : m ≤ 1000000) (n : Int) (hn : -9223372036854775808 ≤ n ∧ n ≤ 9223372036854775807) :
    Calls Try.prog 11 #[.slice A m c, .int .i64 n] w (RGet w b n) := by
  have HR := hid h
  have HM := hid hm
  have HMC := hid hmc
  have HBL : Hid (b.length = m) := hid h.len
  clear h hm hmc
  by_cases hout : n < 0 ∨ 256 < n
  · have HG := hid (RuG.out (b := b) hout)
    rcases Int.lt_or_le n 0 with hneg | hpos
    · have e1 : decide (n < 0) = true := decide_eq_true hneg
      clear hn hout
      go_enter Try.func11, Try.ntmps11
      go_wp2
      go_ret2
      exact RGet.no HG.out (Below.refl _ _)
    · have e1 : decide (n < 0) = false := decide_eq_false (by omega)
      have e2 : decide (256 < n) = true := decide_eq_true (by omega)
      clear hn hout
      go_enter Try.func11, Try.ntmps11
      go_wp2
      go_ret2
      exact RGet.no HG.out (Below.refl _ _)
  obtain ⟨N, rfl⟩ : ∃ N : Nat, n = (N : Int) := ⟨n.toNat, by omega⟩
  have HN : Hid (N ≤ 256) := hid (by omega)
  have HNI : Hid ((N : Int) ≤ 256) := hid (by omega)
  have e1 : decide ((N : Int) < 0) = false := by simp
  have e2 : decide ((256 : Int) < (N : Int)) = false := decide_eq_false (by omega)
  have e3 : decide (256 < N) = false := decide_eq_false (by omega)
  have hread := refRead_c A m c b w 0 w.heap.size HR.out (by have := HM.out; omega)
  clear hn hout
  rcases Nat.eq_zero_or_pos (rd b).2 with hz | hz
  · have HNO := hid (RuI.none_ (n := (N : Int)) HNI.out hz)
    rw [hz] at hread
    clear hz
    go_enter Try.func11, Try.ntmps11
    go_wp2_with fail
    refine hread.mono ?_
    rintro e w1 ⟨rfl, rfl⟩
    go_wp2
    go_ret2
    exact RGet.no HNO.out (Below.refl _ _)
  have HST := hid (RuI.start (b := b) HNI.out)
  have HA0 : Hid ((rd b).2 ≤ b.length) := hid (rd_le b)
  obtain ⟨a0, ha0⟩ : ∃ a0, (rd b).2 = a0 := ⟨_, rfl⟩
  obtain ⟨u0, hu0⟩ : ∃ u0, (rd b).1 = u0 := ⟨_, rfl⟩
  rw [ha0] at hread HST HA0 hz
  rw [hu0] at hread
  have z0 : ((a0 : Int) == 0) = false := by simp; omega
  have z1 : ¬ (a0 : Int) = 0 := by omega
  have z2 : ¬ a0 = 0 := by omega
  clear ha0 hu0 hz
  go_enter Try.func11, Try.ntmps11
  go_wp2_with fail
  refine hread.mono ?_
  rintro e w1 ⟨rfl, rfl⟩
  clear hread
  go_wp2_with fail
  clear e1 e2 e3 z0 z1 z2
  rename World => w
  go_loopg [7, 8] (m - a0) (fun kk av lv wr => ∃ (a : Nat) (out : List Int) (B : Option Addr) (d : Nat), av = .int .i64 (a : Int) ∧ lv = .slice B out.length d ∧ Hid (kk = m - a) ∧ Hid (a ≤ m) ∧ Hid (out.length ≤ N) ∧ Hid (RuI b (N : Int) out (b.drop a)) ∧ Hid (i64s out) ∧ Hid (wr.ownsRow w.heap.size 3 1 (.slice B out.length d) out.length (ics out)) ∧ Hid (Below w.heap.size w wr))
  case atStart => exact ⟨a0, [], none, 0, rfl, rfl, hid rfl, hid (by rw [← HBL.out]; exact HA0.out), hid (Nat.zero_le _), HST, hid (fun x hx => by cases hx), hid (own_nilrow _ _ _ _), hid (Below.refl _ _)⟩
  case round =>
  obtain ⟨a, out, B, d, rfl, rfl, hgk, ha, hon, hI, hS, hO, hB⟩ := hrel
  rename World => wr
  rcases Nat.lt_or_ge a m with hlt | hge
  · have HA := hid hlt
    have HR1 := hid ((HR.out.below hB.out (Nat.le_refl _)).wide (Nat.le_refl _) hB.out.size)
    obtain ⟨g, off, rfl, _⟩ := HR.out.2 (by omega)
    have HNE : Hid (b.drop a ≠ []) := hid (fun e => by have := congrArg List.length e; rw [List.length_drop, HBL.out] at this; have h0 : ([] : List UInt8).length = 0 := rfl; omega)
    have a1 : (0 : Int) ≤ (a : Int) := by omega
    have a2 : (a : Int) ≤ (m : Int) := by omega
    have a3 : (a : Int) ≤ (c : Int) := by have := HMC.out; omega
    have a4 : a ≤ c := by have := HMC.out; omega
    have a5 : a ≤ m := by omega
    have a6 : ¬ c = a := by have := HMC.out; omega
    have a7 : (a : Int) < (m : Int) := by omega
    have a8 : decide ((a : Int) < (m : Int)) = true := decide_eq_true a7
    have a9 : decide (a < m) = true := decide_eq_true hlt
    have HDR := hid (HR1.out.drop a)
    have hread := refRead_c (some ⟨g, off + a, none⟩) (m - a) (c - a) (b.drop a) wr 0 wr.heap.size HDR.out (by have := HM.out; omega)
    have HRL := hid (rd_le (b.drop a))
    have HRLEN : Hid ((b.drop a).length = m - a) := hid (by rw [List.length_drop, HBL.out])
    have HUL := hid (rd_lt (b.drop a))
    have HNX := hid (hI.out.next HNI.out HNE.out)
    have HNO1 := hid (fun hz => hI.out.no1 HNI.out HNE.out hz)
    have HNO2 := hid (fun hz => hI.out.no2 HNI.out HNE.out hz)
    obtain ⟨k, hk⟩ : ∃ k, (rd (b.drop a)).2 = k := ⟨_, rfl⟩
    obtain ⟨u, hu⟩ : ∃ u, (rd (b.drop a)).1 = u := ⟨_, rfl⟩
    rw [hk] at hread HRL HNX HNO1 HNO2
    rw [hu] at hread HUL HNX
    rw [List.drop_drop] at HNX HNO2
    clear hk hu hlt
    rcases Nat.eq_zero_or_pos k with hk0 | hk0
    · subst hk0
      have HF := hid (HNO1.out rfl)
      go_wp2_with fail
      refine hread.mono ?_
      rintro e w1 ⟨rfl, rfl⟩
      go_wp2
      go_ret2
      exact RGet.no HF.out hB.out
    have k0 : ((k : Int) == 0) = false := by simp; omega
    have k1 : ¬ (k : Int) = 0 := by omega
    have k2 : ¬ k = 0 := by omega
    have HK0 := hid hk0
    go_wp2_with fail
    refine hread.mono ?_
    rintro e w1 ⟨rfl, rfl⟩
    rename World => wr
    have HPM : Hid (a + k ≤ m) := hid (by have := HRL.out; have := HRLEN.out; have := HA.out; omega)
    have p0 : wrap64 ((a : Int) + (k : Int)) = ((a + k : Nat) : Int) := by have := HPM.out; have := HM.out; unfold wrap64; omega
    obtain ⟨p, hp⟩ : ∃ p, p = a + k := ⟨_, rfl⟩
    rw [← hp] at p0 HPM HNX HNO2
    have HP := hid hp
    have p1 : (0 : Int) ≤ (p : Int) := by omega
    have p2 : (p : Int) ≤ (m : Int) := by have := HPM.out; omega
    have p3 : (p : Int) ≤ (c : Int) := by have := HMC.out; omega
    have p4 : p ≤ c := by have := HMC.out; omega
    have p5 : p ≤ m := HPM.out
    clear hread hp hk0 a1 a2 a3 a4 a5 a6 a7 a8 a9
    by_cases hcap : c = p
    · subst hcap
      have HE : Hid (b.drop c = [] ∧ m - c = 0) := hid ⟨List.drop_of_length_le (by rw [HBL.out]; exact HMC.out), by have := HMC.out; omega⟩
      have hread2 : Calls Try.prog 21 #[.slice (some ⟨g, off, none⟩) (m - c) 0] wr (Two .u64 0 0 wr) := refRead_c (some ⟨g, off, none⟩) (m - c) 0 [] wr 0 wr.heap.size (by rw [HE.out.2]; exact Bts.nil _ _ _ _) (by have := HM.out; omega)
      have HF := hid (HNO2.out (.inl (by rw [HE.out.1]; rfl)))
      go_wp2_with fail
      refine hread2.mono ?_
      rintro e w2 ⟨rfl, rfl⟩
      go_wp2
      go_ret2
      exact RGet.no HF.out hB.out
    have HDR2 := hid (HR1.out.drop p)
    have hread2 := refRead_c (some ⟨g, off + p, none⟩) (m - p) (c - p) (b.drop p) wr 0 wr.heap.size HDR2.out (by have := HM.out; omega)
    have HRL2 := hid (rd_le (b.drop p))
    have HRLEN2 : Hid ((b.drop p).length = m - p) := hid (by rw [List.length_drop, HBL.out])
    obtain ⟨j, hj⟩ : ∃ j, (rd (b.drop p)).2 = j := ⟨_, rfl⟩
    obtain ⟨q, hq⟩ : ∃ q, (rd (b.drop p)).1 = q := ⟨_, rfl⟩
    rw [hj] at hread2 HRL2 HNX HNO2
    rw [hq] at hread2 HNX HNO2
    clear hj hq
    go_wp2_with fail
    refine hread2.mono ?_
    rintro e w2 ⟨rfl, rfl⟩
    rename World => wr
    clear hread2 k0 k1 k2 p0 p1 p2 p3 p4 p5 hcap
    rcases Nat.eq_zero_or_pos j with hj0 | hj0
    · subst hj0
      have HF := hid (HNO2.out (.inl rfl))
      go_wp2
      go_ret2
      exact RGet.no HF.out hB.out
    have j0 : ((j : Int) == 0) = false := by simp; omega
    have j1 : ¬ (j : Int) = 0 := by omega
    have j2 : ¬ j = 0 := by omega
    have HJ0 := hid hj0
    clear hj0
    by_cases hbig : 256 < q
    · have s1 : decide ((256 : Int) < (q : Int)) = true := decide_eq_true (by omega)
      have s2 : decide (256 < q) = true := decide_eq_true hbig
      have HF := hid (HNO2.out (.inr hbig))
      go_wp2
      go_ret2
      exact RGet.no HF.out hB.out
    have s1 : decide ((256 : Int) < (q : Int)) = false := decide_eq_false (by omega)
    have s2 : decide (256 < q) = false := decide_eq_false hbig
    have HQ : Hid (q ≤ 256) := hid (by omega)
    clear hbig HNO1 HNO2
    go_wp2_with fail
    clear s1 s2 j0 j1 j2
    have HUX := hid (i64r_unfold HUL.out)
    obtain ⟨x, hx⟩ : ∃ x, unfold_ u = x := ⟨_, rfl⟩
    rw [hx] at HNX HUX
    have HXE := hid hx
    obtain ⟨L, hL⟩ : ∃ L, L = out.length := ⟨_, rfl⟩
    rw [← hL] at hO hon ⊢
    have HLE := hid hL
    clear hx hL
    go_loopg [8, 13] q (fun k2 lv iv wq => ∃ (i : Nat) (B' : Option Addr) (d' : Nat), lv = .slice B' (L + i) d' ∧ iv = .int .u64 (i : Int) ∧ Hid (k2 = q - i) ∧ Hid (i ≤ q) ∧ Hid (wq.ownsRow w.heap.size 3 1 (.slice B' (L + i) d') (L + i) (ics (out ++ List.replicate i x))) ∧ Hid (Below w.heap.size w wq))
    case atStart => exact ⟨0, _, _, rfl, rfl, hid rfl, hid (Nat.zero_le _), hid (by rw [List.replicate_zero, List.append_nil]; exact hO.out), hB⟩
    case round =>
    obtain ⟨i, B', d', rfl, rfl, hgk2, hi, hO2, hB2⟩ := hrel
    rename World => wq
    rcases Nat.lt_or_ge i q with hlt2 | hge2
    · have i2 : (i : Int) < (q : Int) := by omega
      have i3 : decide ((i : Int) < (q : Int)) = true := decide_eq_true i2
      have i4 : decide (i < q) = true := decide_eq_true hlt2
      have HI := hid hlt2
      have wi : IntKind.u64.wrap ((i : Int) + 1) = ((i + 1 : Nat) : Int) := by have := HQ.out; rw [IntWalk.u64_in _ (by omega)]; omega
      have HCAP : Hid (L + i + 1 ≤ 1000) := hid (by have := hon.out; have := HN.out; have := HQ.out; omega)
      clear hlt2
      go_wp2_with fail
      refine (refUnfolded_c u _ HUL.out).mono ?_
      rintro e w3 ⟨rfl, rfl⟩
      rename World => wq
      rw [HXE.out]
      go_wp2_with (at_builtin; refine wpList_app1 _ rfl _ _ 22 _ rfl w.heap.size 3 (.int .i64 0) 8 Try.underlying22 Try.infoI_ rfl _ _ _ _ rfl hO2.out _ rfl rfl (by have := HCAP.out; omega) (by have := HCAP.out; unfold maxLen; omega) hB2.out.size ?_)
      intro A5 c5 w5 hc5 ho5 hg5 hb5 hz5
      have HO5 : Hid (w5.ownsRow w.heap.size 3 1 (.slice A5 (L + (i + 1)) c5) (L + (i + 1)) (ics (out ++ List.replicate (i + 1) x))) := hid (by
        rw [List.replicate_succ', ← List.append_assoc, ics_app]
        exact ho5)
      have HB5 := hid (hB2.out.trans hb5)
      clear hc5 ho5 hg5 hb5 hz5 hO2 hB2
      go_wp2_with fail
      go_roundg (q - (i + 1))
      case measure => exact meas_j hgk2.out HI.out
      case rel => exact ⟨i + 1, A5, c5, rfl, by first | rfl | rw [wi], hid rfl, hid HI.out, HO5, HB5⟩
    have hiq : i = q := by have := hi.out; omega
    subst hiq
    have i2 : ¬ (i : Int) < (i : Int) := by omega
    have HPJ : Hid (p + j ≤ m) := hid (by have := HRL2.out; have := HRLEN2.out; have := HPM.out; omega)
    have t1 : wrap64 ((k : Int) + (j : Int)) = ((k + j : Nat) : Int) := by have := HPJ.out; have := HP.out; have := HM.out; unfold wrap64; omega
    have t2 : wrap64 ((a : Int) + ((k + j : Nat) : Int)) = ((p + j : Nat) : Int) := by have := HPJ.out; have := HP.out; have := HM.out; unfold wrap64; omega
    obtain ⟨a', ha'⟩ : ∃ a', a' = p + j := ⟨_, rfl⟩
    rw [← ha'] at t2 HPJ
    rw [List.drop_drop, ← ha'] at HNX
    have HAE := hid ha'
    obtain ⟨kj, hkj⟩ : ∃ kj, kj = k + j := ⟨_, rfl⟩
    rw [← hkj] at t1 t2
    obtain ⟨L2, hL2⟩ : ∃ L2, L2 = L + i := ⟨_, rfl⟩
    rw [← hL2] at hO2 ⊢
    have HL2 : Hid ((out ++ List.replicate i x).length = L2) := hid (by rw [List.length_append, List.length_replicate, hL2, HLE.out])
    have HS2 := hid (i64s_rep hS.out HUX.out i)
    have HAM : Hid (a < a') := hid (by have := HAE.out; have := HP.out; have := HJ0.out; omega)
    generalize out ++ List.replicate i x = O2 at *
    clear ha' hkj hL2 hge2 hi hgk2
    by_cases hov : N < L2
    · have v1 : decide ((N : Int) < (L2 : Int)) = true := decide_eq_true (by omega)
      have v2 : decide (N < L2) = true := decide_eq_true hov
      have HF := hid (HNX.out.no3 (by rw [HL2.out]; omega))
      clear hov
      go_wp2
      go_ret2
      exact RGet.no HF.out hB2.out
    have v1 : decide ((N : Int) < (L2 : Int)) = false := decide_eq_false (by omega)
    have v2 : decide (N < L2) = false := decide_eq_false hov
    have HOV : Hid (L2 ≤ N) := hid (by omega)
    clear hov
    go_wp2_with fail
    go_roundg (m - a')
    case measure => have := hgk.out; have := HAM.out; have := HPJ.out; omega
    case rel => exact ⟨a', O2, B', d', by first | rfl | rw [t1, t2], by rw [HL2.out], hid rfl, HPJ, hid (by rw [HL2.out]; exact HOV.out), HNX, HS2, hid (by rw [HL2.out]; exact hO2.out), hB2⟩
  have ham : a = m := by have := ha.out; omega
  subst ham
  have a7 : ¬ (a : Int) < (a : Int) := by omega
  have HDE : Hid (b.drop a = []) := hid (List.drop_of_length_le (Nat.le_of_eq HBL.out))
  have HI2 : Hid (RuI b (N : Int) out []) := hid (by rw [← HDE.out]; exact hI.out)
  clear hI hge hgk
  by_cases hlen : out.length = N
  · have HLE := hid hlen
    have e4 : (((out.length : Nat) : Int) != (N : Int)) = false := by rw [hlen]; simp
    rw [hlen] at hO e4 ⊢
    have hBn : Hid (N ≤ 10000) := hid (by have := HN.out; omega)
    go_wp2_with fail
    have hdr : Below wr.heap.size wr wr.drew := (Below.refl _ _).drew
    obtain ⟨P, hP⟩ : ∃ P, ruP out = P := ⟨_, rfl⟩
    have HPE := hid hP
    have s1 := str_list b
    have s2 := str_list P
    clear hlen hP
    by_cases hpb : P = b
    · subst hpb
      have d1 : (P != P) = false := by simp
      have d2 : (P == P) = true := by simp
      clear s1
      refine wp_region_held_drew (S := fun wx => Below wr.heap.size wr wx) (by kernel_rfl) hdr (fun HS => ?_)
      refine wpAnyH_take (i := 0) (oi := ?oig0) (v := ?vg0) ?hig0 (by kernel_rfl) (by kernel_rfl) (by kernel_rfl) ?hQg0 ?hyg0 HS ?restg0
      case hig0 => simp only [List.getElem?_toArray, List.getElem?_cons_zero]; exact rfl
      case hQg0 => exact fun _ _ _ h => h
      case hyg0 =>
        refine Or.inl ⟨by rfl, ?_⟩
        intro wS hSw
        go_simp
        try with_reducible rfl
      try simp only [Act.put, List.setIfInBounds_toArray, List.set_cons_zero, List.set_cons_succ]
      refine wpAnyH_take (i := 1) (oi := ?oig1) (v := ?vg1) ?hig1 (by kernel_rfl) (by kernel_rfl) (by kernel_rfl) ?hQg1 ?hyg1 HS ?restg1
      case hig1 => simp only [List.getElem?_toArray, List.getElem?_cons_succ, List.getElem?_cons_zero]; exact rfl
      case hQg1 => exact fun _ _ _ h => h
      case hyg1 =>
        refine Or.inl ⟨by rfl, ?_⟩
        intro wS hSw
        go_simp
        try with_reducible rfl
      try simp only [Act.put, List.setIfInBounds_toArray, List.set_cons_zero, List.set_cons_succ]
      refine wpAnyH_take (i := 2) (oi := ?oig2) (v := ?vg2) ?hig2 (by kernel_rfl) (by kernel_rfl) (by kernel_rfl) ?hQg2 ?hyg2 HS ?restg2
      case hig2 => simp only [List.getElem?_toArray, List.getElem?_cons_succ, List.getElem?_cons_zero]; exact rfl
      case hQg2 => exact fun _ _ _ h => h
      case hyg2 =>
        refine Or.inl ⟨by rfl, ?_⟩
        intro wS hSw
        go_simp
        try with_reducible rfl
      try simp only [Act.put, List.setIfInBounds_toArray, List.set_cons_zero, List.set_cons_succ]
      refine wpAnyH_take (i := 3) (oi := ?oig3) (v := ?vg3) ?hig3 (by kernel_rfl) (by kernel_rfl) (by kernel_rfl) ?hQg3 ?hyg3 HS ?restg3
      case hig3 => simp only [List.getElem?_toArray, List.getElem?_cons_succ, List.getElem?_cons_zero]; exact rfl
      case hQg3 => exact fun _ _ _ h => h
      case hyg3 =>
        refine Or.inl ⟨by rfl, ?_⟩
        intro wS hSw
        go_simp
        try with_reducible rfl
      try simp only [Act.put, List.setIfInBounds_toArray, List.set_cons_zero, List.set_cons_succ]
      refine wpAnyH_take (i := 4) (oi := ?oig4) (v := ?vg4) ?hig4 (by kernel_rfl) (by kernel_rfl) (by kernel_rfl) ?hQg4 ?hyg4 HS ?restg4
      case hig4 => simp only [List.getElem?_toArray, List.getElem?_cons_succ, List.getElem?_cons_zero]; exact rfl
      case hQg4 => exact fun _ _ _ h => h
      case hyg4 =>
        refine Or.inl ⟨by rfl, ?_⟩
        intro wS hSw
        go_simp
        try with_reducible rfl
      try simp only [Act.put, List.setIfInBounds_toArray, List.set_cons_zero, List.set_cons_succ]
      refine wpAnyH_take (i := 5) (oi := ?oig5) (v := ?vg5) ?hig5 (by kernel_rfl) (by kernel_rfl) (by kernel_rfl) ?hQg5 ?hyg5 HS ?restg5
      case hig5 => simp only [List.getElem?_toArray, List.getElem?_cons_succ, List.getElem?_cons_zero]; exact rfl
      case hQg5 => exact fun _ _ _ h => h
      case hyg5 =>
        refine Or.inl ⟨by rfl, ?_⟩
        intro wS hSw
        go_simp
        try with_reducible rfl
      try simp only [Act.put, List.setIfInBounds_toArray, List.set_cons_zero, List.set_cons_succ]
      refine wpAnyH_take (i := 8) (oi := ?oig8) (v := ?vg8) ?hig8 (by kernel_rfl) (by kernel_rfl) (by kernel_rfl) ?hQg8 ?hyg8 HS ?restg8
      case hig8 => simp only [List.getElem?_toArray, List.getElem?_cons_succ, List.getElem?_cons_zero]; exact rfl
      case hQg8 => exact fun _ _ _ h => h
      case hyg8 =>
        refine Or.inl ⟨by rfl, ?_⟩
        intro wS hSw
        go_simp
        try with_reducible rfl
      try simp only [Act.put, List.setIfInBounds_toArray, List.set_cons_zero, List.set_cons_succ]
      refine wpAnyH_take (i := 9) (oi := ?oig9) (v := ?vg9) ?hig9 (by kernel_rfl) (by kernel_rfl) (by kernel_rfl) ?hQg9 ?hyg9 HS ?restg9
      case hig9 => simp only [List.getElem?_toArray, List.getElem?_cons_succ, List.getElem?_cons_zero]; exact rfl
      case hQg9 => exact fun _ _ _ h => h
      case hyg9 =>
        refine Or.inl ⟨by rfl, ?_⟩
        intro wS hSw
        have hcv := ru_str (c := c) (HR.out.below (hB.out.trans (hSw.mono hB.out.size)) (Nat.le_refl _))
        go_simp
        try with_reducible rfl
      try simp only [Act.put, List.setIfInBounds_toArray, List.set_cons_zero, List.set_cons_succ]
      refine wpAnyH_ready (rs := [6]) (by kernel_rfl) (by simp) ?_
      refine AllReadyH.cons (o := ?og6) ?hog6 (fun K hK => ?stepg6) AllReadyH.nil
      case hog6 => simp only [List.getElem?_toArray, List.getElem?_cons_succ, List.getElem?_cons_zero]; exact rfl
      rw [if_pos (by rfl)]
      go_simp
      refine (rrput_c (w := wr.drew) (L := out) (((Lst.own (own_bel hO.out hdr)).wide (Nat.zero_le _) (Nat.le_refl _))) hBn.out hS.out).mono ?_
      rintro e w5 ⟨A5, c5, rfl, hc5, ho5, hb5⟩
      have HB5 : Hid (Below wr.heap.size wr w5) := hid (hdr.trans (hb5.mono (Nat.le_refl _)))
      have hcv := ru_str (c := c5) (Bts.own ho5)
      rw [HPE.out] at hcv ⊢
      clear hb5 hc5 ho5
      refine hK.out _ _ HB5.out (fun HS => ?_)
      clear hK K
      try simp only [Act.put, List.setIfInBounds_toArray, List.set_cons_zero, List.set_cons_succ]
      refine wpAnyH_ready (rs := [7]) (by kernel_rfl) (by simp) ?_
      refine AllReadyH.cons (o := ?og7) ?hog7 (fun K hK => ?stepg7) AllReadyH.nil
      case hog7 => simp only [List.getElem?_toArray, List.getElem?_cons_succ, List.getElem?_cons_zero]; exact rfl
      rw [if_pos (by rfl)]
      go_simp
      refine hK.out _ _ HB5.out (fun HS => ?_)
      clear hK K
      try simp only [Act.put, List.setIfInBounds_toArray, List.set_cons_zero, List.set_cons_succ]
      refine wpAnyH_take (i := 10) (oi := ?oig10) (v := ?vg10) ?hig10 (by kernel_rfl) (by kernel_rfl) (by kernel_rfl) ?hQg10 ?hyg10 HS ?restg10
      case hig10 => simp only [List.getElem?_toArray, List.getElem?_cons_succ, List.getElem?_cons_zero]; exact rfl
      case hQg10 => exact fun _ _ _ h => h
      case hyg10 =>
        refine Or.inl ⟨by rfl, ?_⟩
        intro wS hSw
        go_simp
        try with_reducible rfl
      try simp only [Act.put, List.setIfInBounds_toArray, List.set_cons_zero, List.set_cons_succ]
      refine wpAnyH_take (i := 11) (oi := ?oig11) (v := ?vg11) ?hig11 (by kernel_rfl) (by kernel_rfl) (by kernel_rfl) ?hQg11 ?hyg11 HS ?restg11
      case hig11 => simp only [List.getElem?_toArray, List.getElem?_cons_succ, List.getElem?_cons_zero]; exact rfl
      case hQg11 => exact fun _ _ _ h => h
      case hyg11 =>
        refine Or.inl ⟨by rfl, ?_⟩
        intro wS hSw
        go_simp
        try with_reducible rfl
      try simp only [Act.put, List.setIfInBounds_toArray, List.set_cons_zero, List.set_cons_succ]
      refine wpAnyH_done (by kernel_rfl) ?_ _
      go_wp2
      go_ret2
      exact ⟨out, true, B, d, by rw [HLE.out]; rfl, .inl ⟨rfl, by omega, HNI.out, by rw [HLE.out], hS.out, HPE.out⟩, by rw [HLE.out]; exact ((Lst.own hO.out).below HB5.out (Nat.le_refl _)).wide (Nat.zero_le _) HB5.out.size, by rw [HLE.out]; exact own_nc hO.out, hB.out.trans (HB5.out.mono hB.out.size)⟩
    · have d1 : (P != b) = true := by simpa using hpb
      have d2 : (P == b) = false := beq_eq_false_iff_ne.2 hpb
      have HF := hid (HI2.out.no5 (by rw [HPE.out]; exact hpb))
      clear hpb
      refine wp_region_held_drew (S := fun wx => Below wr.heap.size wr wx) (by kernel_rfl) hdr (fun HS => ?_)
      refine wpAnyH_take (i := 0) (oi := ?oih0) (v := ?vh0) ?hih0 (by kernel_rfl) (by kernel_rfl) (by kernel_rfl) ?hQh0 ?hyh0 HS ?resth0
      case hih0 => simp only [List.getElem?_toArray, List.getElem?_cons_zero]; exact rfl
      case hQh0 => exact fun _ _ _ h => h
      case hyh0 =>
        refine Or.inl ⟨by rfl, ?_⟩
        intro wS hSw
        go_simp
        try with_reducible rfl
      try simp only [Act.put, List.setIfInBounds_toArray, List.set_cons_zero, List.set_cons_succ]
      refine wpAnyH_take (i := 1) (oi := ?oih1) (v := ?vh1) ?hih1 (by kernel_rfl) (by kernel_rfl) (by kernel_rfl) ?hQh1 ?hyh1 HS ?resth1
      case hih1 => simp only [List.getElem?_toArray, List.getElem?_cons_succ, List.getElem?_cons_zero]; exact rfl
      case hQh1 => exact fun _ _ _ h => h
      case hyh1 =>
        refine Or.inl ⟨by rfl, ?_⟩
        intro wS hSw
        go_simp
        try with_reducible rfl
      try simp only [Act.put, List.setIfInBounds_toArray, List.set_cons_zero, List.set_cons_succ]
      refine wpAnyH_take (i := 2) (oi := ?oih2) (v := ?vh2) ?hih2 (by kernel_rfl) (by kernel_rfl) (by kernel_rfl) ?hQh2 ?hyh2 HS ?resth2
      case hih2 => simp only [List.getElem?_toArray, List.getElem?_cons_succ, List.getElem?_cons_zero]; exact rfl
      case hQh2 => exact fun _ _ _ h => h
      case hyh2 =>
        refine Or.inl ⟨by rfl, ?_⟩
        intro wS hSw
        go_simp
        try with_reducible rfl
      try simp only [Act.put, List.setIfInBounds_toArray, List.set_cons_zero, List.set_cons_succ]
      refine wpAnyH_take (i := 3) (oi := ?oih3) (v := ?vh3) ?hih3 (by kernel_rfl) (by kernel_rfl) (by kernel_rfl) ?hQh3 ?hyh3 HS ?resth3
      case hih3 => simp only [List.getElem?_toArray, List.getElem?_cons_succ, List.getElem?_cons_zero]; exact rfl
      case hQh3 => exact fun _ _ _ h => h
      case hyh3 =>
        refine Or.inl ⟨by rfl, ?_⟩
        intro wS hSw
        go_simp
        try with_reducible rfl
      try simp only [Act.put, List.setIfInBounds_toArray, List.set_cons_zero, List.set_cons_succ]
      refine wpAnyH_take (i := 4) (oi := ?oih4) (v := ?vh4) ?hih4 (by kernel_rfl) (by kernel_rfl) (by kernel_rfl) ?hQh4 ?hyh4 HS ?resth4
      case hih4 => simp only [List.getElem?_toArray, List.getElem?_cons_succ, List.getElem?_cons_zero]; exact rfl
      case hQh4 => exact fun _ _ _ h => h
      case hyh4 =>
        refine Or.inl ⟨by rfl, ?_⟩
        intro wS hSw
        go_simp
        try with_reducible rfl
      try simp only [Act.put, List.setIfInBounds_toArray, List.set_cons_zero, List.set_cons_succ]
      refine wpAnyH_take (i := 5) (oi := ?oih5) (v := ?vh5) ?hih5 (by kernel_rfl) (by kernel_rfl) (by kernel_rfl) ?hQh5 ?hyh5 HS ?resth5
      case hih5 => simp only [List.getElem?_toArray, List.getElem?_cons_succ, List.getElem?_cons_zero]; exact rfl
      case hQh5 => exact fun _ _ _ h => h
      case hyh5 =>
        refine Or.inl ⟨by rfl, ?_⟩
        intro wS hSw
        go_simp
        try with_reducible rfl
      try simp only [Act.put, List.setIfInBounds_toArray, List.set_cons_zero, List.set_cons_succ]
      refine wpAnyH_take (i := 8) (oi := ?oih8) (v := ?vh8) ?hih8 (by kernel_rfl) (by kernel_rfl) (by kernel_rfl) ?hQh8 ?hyh8 HS ?resth8
      case hih8 => simp only [List.getElem?_toArray, List.getElem?_cons_succ, List.getElem?_cons_zero]; exact rfl
      case hQh8 => exact fun _ _ _ h => h
      case hyh8 =>
        refine Or.inl ⟨by rfl, ?_⟩
        intro wS hSw
        go_simp
        try with_reducible rfl
      try simp only [Act.put, List.setIfInBounds_toArray, List.set_cons_zero, List.set_cons_succ]
      refine wpAnyH_take (i := 9) (oi := ?oih9) (v := ?vh9) ?hih9 (by kernel_rfl) (by kernel_rfl) (by kernel_rfl) ?hQh9 ?hyh9 HS ?resth9
      case hih9 => simp only [List.getElem?_toArray, List.getElem?_cons_succ, List.getElem?_cons_zero]; exact rfl
      case hQh9 => exact fun _ _ _ h => h
      case hyh9 =>
        refine Or.inl ⟨by rfl, ?_⟩
        intro wS hSw
        have hcv := ru_str (c := c) (HR.out.below (hB.out.trans (hSw.mono hB.out.size)) (Nat.le_refl _))
        go_simp
        try with_reducible rfl
      try simp only [Act.put, List.setIfInBounds_toArray, List.set_cons_zero, List.set_cons_succ]
      refine wpAnyH_ready (rs := [6]) (by kernel_rfl) (by simp) ?_
      refine AllReadyH.cons (o := ?oh6) ?hoh6 (fun K hK => ?steph6) AllReadyH.nil
      case hoh6 => simp only [List.getElem?_toArray, List.getElem?_cons_succ, List.getElem?_cons_zero]; exact rfl
      rw [if_pos (by rfl)]
      go_simp
      refine (rrput_c (w := wr.drew) (L := out) (((Lst.own (own_bel hO.out hdr)).wide (Nat.zero_le _) (Nat.le_refl _))) hBn.out hS.out).mono ?_
      rintro e w5 ⟨A5, c5, rfl, hc5, ho5, hb5⟩
      have HB5 : Hid (Below wr.heap.size wr w5) := hid (hdr.trans (hb5.mono (Nat.le_refl _)))
      have hcv := ru_str (c := c5) (Bts.own ho5)
      rw [HPE.out] at hcv ⊢
      clear hb5 hc5 ho5
      refine hK.out _ _ HB5.out (fun HS => ?_)
      clear hK K
      try simp only [Act.put, List.setIfInBounds_toArray, List.set_cons_zero, List.set_cons_succ]
      refine wpAnyH_ready (rs := [7]) (by kernel_rfl) (by simp) ?_
      refine AllReadyH.cons (o := ?oh7) ?hoh7 (fun K hK => ?steph7) AllReadyH.nil
      case hoh7 => simp only [List.getElem?_toArray, List.getElem?_cons_succ, List.getElem?_cons_zero]; exact rfl
      rw [if_pos (by rfl)]
      go_simp
      refine hK.out _ _ HB5.out (fun HS => ?_)
      clear hK K
      try simp only [Act.put, List.setIfInBounds_toArray, List.set_cons_zero, List.set_cons_succ]
      refine wpAnyH_take (i := 10) (oi := ?oih10) (v := ?vh10) ?hih10 (by kernel_rfl) (by kernel_rfl) (by kernel_rfl) ?hQh10 ?hyh10 HS ?resth10
      case hih10 => simp only [List.getElem?_toArray, List.getElem?_cons_succ, List.getElem?_cons_zero]; exact rfl
      case hQh10 => exact fun _ _ _ h => h
      case hyh10 =>
        refine Or.inl ⟨by rfl, ?_⟩
        intro wS hSw
        go_simp
        try with_reducible rfl
      try simp only [Act.put, List.setIfInBounds_toArray, List.set_cons_zero, List.set_cons_succ]
      refine wpAnyH_take (i := 11) (oi := ?oih11) (v := ?vh11) ?hih11 (by kernel_rfl) (by kernel_rfl) (by kernel_rfl) ?hQh11 ?hyh11 HS ?resth11
      case hih11 => simp only [List.getElem?_toArray, List.getElem?_cons_succ, List.getElem?_cons_zero]; exact rfl
      case hQh11 => exact fun _ _ _ h => h
      case hyh11 =>
        refine Or.inl ⟨by rfl, ?_⟩
        intro wS hSw
        go_simp
        try with_reducible rfl
      try simp only [Act.put, List.setIfInBounds_toArray, List.set_cons_zero, List.set_cons_succ]
      refine wpAnyH_done (by kernel_rfl) ?_ _
      go_wp2
      go_ret2
      exact RGet.no HF.out (hB.out.trans (HB5.out.mono hB.out.size))
  · have HF := hid (HI2.out.no4 (by omega))
    obtain ⟨q, hq⟩ : ∃ q, q = out.length := ⟨_, rfl⟩
    rw [← hq] at hlen ⊢
    have e4 : ((q : Int) != (N : Int)) = true := by simp; omega
    have e5 : ¬ (q : Int) = (N : Int) := by omega
    have e6 : ¬ q = N := hlen
    clear hlen hq
    go_wp2_with fail
    go_quiet (fail)
    go_wp2
    go_ret2
    exact RGet.no HF.out (bdQr _ hB.out)
end Go.Proofs.Ytolaojkcofbkhaa
