/- The walk of SpacePlays: for every input the law answers true. -/
import Derived.Test.YtfkaobpfdpfahaaSqTwin
import Derived.Test.YtfkaobpfdpfahaaFrame
namespace Go.Proofs.Ytfkaobpfdpfahaa
open Go.RowKit

set_option maxRecDepth 20000 in
set_option maxHeartbeats 16000000 in
theorem splays_core (bl rs : Int) (A : Option Addr) (n c : Nat) (o : Nat → Int × Int) (w : World) (hops : OpsP w w.heap.size A n o) (hn : n ≤ 9223372036854775807) :
    Calls Try.prog 3 #[.int .i64 bl, .int .i64 rs, .slice A n c] w fun e w' => e = .returned (.bool true) ∧ Below w.heap.size w w' := by
  obtain ⟨N, hN, m0⟩ := kmod0 bl 30 (by decide)
  rw [show ((30 : Nat) : Int) = 30 from rfl] at m0
  have m1 : wrap64 (N : Int) = (N : Int) := by clear m0; unfold wrap64; omega
  have HOPS := hid hops
  have HNN := hid hn
  have HN30 := hid hN
  clear hops hn hN
  go_enter Try.func3, Try.ntmps3
  go_wp2_with fail
  refine (first_c w).mono ?_
  rintro e w1 ⟨rfl, hb1⟩
  have HB1 := hid hb1
  clear hb1
  by_cases hN0 : N = 0
  · subst hN0
    as_aux_lemma =>
    go_wp2_with fail
    try simp only [m1]
    refine (new_wrong _ rs w1 (.inl (by decide))).mono ?_
    rintro e w' ⟨rfl, rfl⟩
    go_wp2
    go_ret
    exact ⟨rfl, HB1.out⟩
  have d1 : decide ((N : Int) < 1) = false := by simp; omega
  have d2 : decide (N < 1) = false := by simp; omega
  have d3 : (N == 0) = false := by simpa using hN0
  have HN1 : Hid (1 ≤ N) := hid (by omega)
  by_cases hr0 : rs < 0
  · have d4 : decide (rs < 0) = true := by simpa using hr0
    as_aux_lemma =>
    go_wp2_with fail
    try simp only [m1]
    refine (new_wrong _ rs w1 (.inr (.inr (.inl hr0)))).mono ?_
    rintro e w' ⟨rfl, rfl⟩
    clear m0
    go_wp2
    go_ret
    exact ⟨rfl, HB1.out⟩
  have d4 : decide (rs < 0) = false := by simpa using hr0
  by_cases hrN : (N : Int) < rs
  · have d5 : decide ((N : Int) < rs) = true := by simpa using hrN
    as_aux_lemma =>
    go_wp2_with fail
    try simp only [m1]
    refine (new_wrong _ rs w1 (.inr (.inr (.inr hrN)))).mono ?_
    rintro e w' ⟨rfl, rfl⟩
    clear m0
    go_wp2
    go_ret
    exact ⟨rfl, HB1.out⟩
  have d5 : decide ((N : Int) < rs) = false := by simpa using hrN
  have HRS : Hid (rs = ((rs.toNat : Nat) : Int) ∧ rs.toNat ≤ N) := hid (by omega)
  generalize rs.toNat = r at *
  clear hr0 hrN hN0
  as_aux_lemma =>
  go_wp2_with fail
  try simp only [m1]
  refine (snew_c (N : Int) rs N r rfl HRS.out.1 w1 HN1.out (by have := HN30.out; omega) HRS.out.2).mono ?_
  rintro e w2 ⟨g, k, rfl, hm, hb, hg, hk⟩
  have H2 : Hid (MOn w w2 g k (Sp.new N r)) := hid (MOn.new HB1.out hm hb hg hk)
  clear hm hb hg hk HB1
  have hc := rnew_c N r w2 (by have := HN30.out; omega) HRS.out.2
  rw [← HRS.out.1] at hc
  go_wp2_with fail
  try simp only [m1]
  refine hc.mono ?_
  rintro e w3 ⟨ge, G, rfl, hr, hb, hG⟩
  have HT3 : Hid (Tw w w3 g k ge N r (Sp.new N r) (Sp.new N r) (fun _ => False)) := hid ⟨G, _, (H2.out.go hb).mp, hr, Cp.new N r HRS.out.2, tf_len N r HRS.out.2, rfl, fun e => by have := hG _ e; have := H2.out.mp.blk.lt; omega, fun e => by have := hG _ e; have := H2.out.mp.row.lt; omega, H2.out.g0, H2.out.k0, fun j hj => by have := hG j hj; have := H2.out.bel.size; omega, (H2.out.go hb).bel, fun x hx => hx.elim⟩
  have HS0 : Hid ((Sp.new N r).T.length = N) := hid (tf_len N r HRS.out.2)
  clear hr hb hG hc H2
  go_wp2_with fail
  try simp only [m1]
  clear m0 m1 d1 d2 d3 d4 d5
  generalize Sp.new N r = s0 at *
  have HN4 : Hid (N ≤ 4096) := hid (by have := HN30.out; omega)
  go_loopg [52] n (fun q iv wr => ∃ (j : Nat) (s : Sp), iv = .int .i64 (j : Int) ∧ Hid (q = n - j) ∧ Hid (j ≤ n) ∧ Hid (j ≤ 100) ∧ Hid (s.T.length = N) ∧ Hid (Tw w wr g k ge N r s s (fun _ => False)))
  case atStart => exact ⟨0, s0, rfl, hid (by omega), hid (Nat.zero_le _), hid (by decide), HS0, HT3⟩
  case round =>
    obtain ⟨j, s, rfl, hgk, hj, hj100, hsn, hT⟩ := hrel
    clear HT3 HS0
    rcases Nat.lt_or_ge j n with hlt | hge
    · have HLT := hid hlt
      obtain ⟨b, off, rfl, hbl, hR0⟩ := HOPS.out j hlt
      have HR1 := hid (rangeAt_keep hR0 (hT.out.below.block b hbl))
      obtain ⟨d, hd1, hd2⟩ := Try.undO
      have HD := hid (And.intro hd1 hd2)
      have HIN : Hid ((Try.prog.info? 32).map (·.size) = some (oc (o j)).length) := hid Try.infoO
      have HTH : Hid ((wr.alloc (.cells #[.int .i64 0, .int .i64 0] 32)).there wr.heap.size 0 (oc (o j)).toArray.size) := hid (z2 wr)
      have HC := hid (oc_one (o j))
      have HV : Hid (VarP wr ((wr.alloc (.cells #[.int .i64 0, .int .i64 0] 32)).setCells wr.heap.size 0 (oc (o j))) (o j)) := hid (VarP.of wr (o j))
      have j1 : (0 : Int) ≤ (j : Int) := by omega
      have j2 : (j : Int) < (n : Int) := by omega
      have j3 : decide ((j : Int) < (n : Int)) = true := by simpa using hlt
      have j4 : decide (j < n) = true := by simpa using hlt
      have wj : wrap64 ((j : Int) + 1) = ((j + 1 : Nat) : Int) := by have := HNN.out; unfold wrap64; omega
      clear hR0 hbl hlt
      generalize o j = x at *
      generalize oc x = E at *
      as_aux_lemma =>
      go_upto_region 11 with (first | (refine wpList_load_mid rfl 32 _ rfl b (off + j * 2) rfl E d HR1.out HD.out.1 HD.out.2 HIN.out ?_) | (refine wpList_store_mid rfl 32 _ _ rfl _ _ E.toArray rfl rfl HTH.out HIN.out HC.out ?_))
      simp only [Act.put]
      generalize (wr.alloc (.cells #[.int .i64 0, .int .i64 0] 32)).setCells wr.heap.size 0 E = w4 at *
      have y0 := HV.out.c0
      have y1 := HV.out.c1
      have HT4 : Hid (Tw w w4 g k ge N r s s (fun x => x = wr.heap.size)) := hid (hT.out.var HV.out.bel HV.out.lt)
      clear HR1 HTH HC HIN HD hT HV hd1 hd2
      generalize wr.heap.size = v at *
      by_cases h100 : 100 ≤ j
      · have e1 : decide ((100 : Int) ≤ (j : Int)) = true := by simp; omega
        clear h100
        go_wp2
        go_ret
        exact ⟨rfl, HT4.out.below⟩
      · have e1 : decide ((100 : Int) ≤ (j : Int)) = false := by simp; omega
        have HJ : Hid (j < 100) := hid (by omega)
        obtain ⟨hk1, hk2⟩ := kd_eq x.1
        have HKD : Hid (kd x.1 = 0 ∨ kd x.1 = 1 ∨ kd x.1 = 2) := hid (by omega)
        generalize kd x.1 = q at *
        clear h100 hk2
        go_upto_block 2 with fail
        go_cut [] (fun wx => ∃ s' : Sp, Hid (Tw w wx g k ge N r s' s' (fun x => x = v)) ∧ Hid (s'.T.length = N) ∧ Hid (wx.heap[v]? = w4.heap[v]?))
        case first =>
          rcases HKD.out with rfl | rfl | rfl
          · as_aux_lemma =>
            have hc := take_any w4 g k s HT4.out.mp
            go_wp2_with fail
            refine hc.mono ?_
            rintro e w5 ⟨rfl, hL⟩
            obtain ⟨t5, k5⟩ := HT4.out.one hL
            obtain ⟨G, L, hR, hC, hl, hr, hL4, h2⟩ := t5.two HN4.out
            have H2 := hid h2
            have K5 := hid (k5 v rfl)
            have hc := rtake_any w5 G ge N r L s hC hR hL4
            have HSN : Hid (s.take.T.length = N ∧ s.take.r = r) := hid ⟨s.take_len.trans hl, s.take_r.trans hr⟩
            clear hL t5 k5 hR hC hl hr hL4 h2
            generalize s.takeN = tn at *
            generalize s.any = ta at *
            go_wp2_with fail
            refine hc.mono ?_
            rintro e w6 ⟨L', rfl, hL, hC⟩
            obtain ⟨t6, k6⟩ := H2.out w6 L' _ hL hC HSN.out.1 HSN.out.2
            have T6 := hid t6
            have K6 : Hid (w6.heap[v]? = w4.heap[v]?) := hid ((k6 v rfl).trans K5.out)
            have ne1 : ((tn : Int) != (tn : Int)) = false := by simp
            have ne2 : (ta != ta) = false := by simp
            clear hL hC t6 k6 hc H2
            go_wp2_with fail
            go_meet
            case rel => exact ⟨_, T6, hid HSN.out.1, K6⟩
          · as_aux_lemma =>
            have HT4d := hid (HT4.out.go (wr' := w4.drew) ((Below.refl _ _).drew))
            have hc := mark_any w4.drew g k s HT4d.out.mp x.2
            have y1d : w4.drew.cell? ⟨v, 1, none⟩ = some (.int .i64 x.2) := by simpa using y1
            go_wp2_with fail
            refine wp_region_held_drew (S := fun wx => wx.cell? ⟨v, 1, none⟩ = some (.int .i64 x.2)) (by kernel_rfl) y1d (fun HS => ?_)
            refine wpAnyH_take (i := 0) (oi := ?oim0) (v := ?vm0) ?him0 (by kernel_rfl) (by kernel_rfl) (by kernel_rfl) ?hQm0 ?hym0 HS ?restm0
            case him0 => simp only [List.getElem?_toArray, List.getElem?_cons_zero]; exact rfl
            case hQm0 => exact fun _ _ _ h => h
            case hym0 =>
              refine Or.inl ⟨by rfl, ?_⟩
              intro wS hSw
              go_simp
              try with_reducible rfl
            try simp only [Act.put, List.setIfInBounds_toArray, List.set_cons_zero, List.set_cons_succ]
            refine wpAnyH_take (i := 1) (oi := ?oim1) (v := ?vm1) ?him1 (by kernel_rfl) (by kernel_rfl) (by kernel_rfl) ?hQm1 ?hym1 HS ?restm1
            case him1 => simp only [List.getElem?_toArray, List.getElem?_cons_succ, List.getElem?_cons_zero]; exact rfl
            case hQm1 => exact fun _ _ _ h => h
            case hym1 =>
              refine Or.inl ⟨by rfl, ?_⟩
              intro wS hSw
              go_simp
              try with_reducible rfl
            try simp only [Act.put, List.setIfInBounds_toArray, List.set_cons_zero, List.set_cons_succ]
            refine wpAnyH_take (i := 2) (oi := ?oim2) (v := ?vm2) ?him2 (by kernel_rfl) (by kernel_rfl) (by kernel_rfl) ?hQm2 ?hym2 HS ?restm2
            case him2 => simp only [List.getElem?_toArray, List.getElem?_cons_succ, List.getElem?_cons_zero]; exact rfl
            case hQm2 => exact fun _ _ _ h => h
            case hym2 =>
              refine Or.inl ⟨by rfl, ?_⟩
              intro wS hSw
              have z0 := hSw
              go_simp
              try with_reducible rfl
            try simp only [Act.put, List.setIfInBounds_toArray, List.set_cons_zero, List.set_cons_succ]
            refine wpAnyH_take (i := 4) (oi := ?oim4) (v := ?vm4) ?him4 (by kernel_rfl) (by kernel_rfl) (by kernel_rfl) ?hQm4 ?hym4 HS ?restm4
            case him4 => simp only [List.getElem?_toArray, List.getElem?_cons_succ, List.getElem?_cons_zero]; exact rfl
            case hQm4 => exact fun _ _ _ h => h
            case hym4 =>
              refine Or.inl ⟨by rfl, ?_⟩
              intro wS hSw
              go_simp
              try with_reducible rfl
            try simp only [Act.put, List.setIfInBounds_toArray, List.set_cons_zero, List.set_cons_succ]
            refine wpAnyH_take (i := 5) (oi := ?oim5) (v := ?vm5) ?him5 (by kernel_rfl) (by kernel_rfl) (by kernel_rfl) ?hQm5 ?hym5 HS ?restm5
            case him5 => simp only [List.getElem?_toArray, List.getElem?_cons_succ, List.getElem?_cons_zero]; exact rfl
            case hQm5 => exact fun _ _ _ h => h
            case hym5 =>
              refine Or.inl ⟨by rfl, ?_⟩
              intro wS hSw
              go_simp
              try with_reducible rfl
            try simp only [Act.put, List.setIfInBounds_toArray, List.set_cons_zero, List.set_cons_succ]
            refine wpAnyH_take (i := 6) (oi := ?oim6) (v := ?vm6) ?him6 (by kernel_rfl) (by kernel_rfl) (by kernel_rfl) ?hQm6 ?hym6 HS ?restm6
            case him6 => simp only [List.getElem?_toArray, List.getElem?_cons_succ, List.getElem?_cons_zero]; exact rfl
            case hQm6 => exact fun _ _ _ h => h
            case hym6 =>
              refine Or.inl ⟨by rfl, ?_⟩
              intro wS hSw
              have z0 := hSw
              go_simp
              try with_reducible rfl
            try simp only [Act.put, List.setIfInBounds_toArray, List.set_cons_zero, List.set_cons_succ]
            refine wpAnyH_ready (rs := [3]) (by kernel_rfl) (by simp) ?_
            refine AllReadyH.cons (o := ?om3) ?hom3 (fun K hK => ?stepm3) AllReadyH.nil
            case hom3 => simp only [List.getElem?_toArray, List.getElem?_cons_succ, List.getElem?_cons_zero]; exact rfl
            go_simp
            refine hc.mono ?_
            rintro e w5 ⟨rfl, hL⟩
            obtain ⟨t5, k5⟩ := HT4d.out.one hL
            obtain ⟨G, L, hR, hC, hl, hr, hL4, h2⟩ := t5.two HN4.out
            have H2 := hid h2
            have K5 : Hid (w5.heap[v]? = w4.heap[v]?) := hid (k5 v rfl)
            have hc := rmark_all w5 G ge N r L s hC hR hL4 x.2
            have HSN : Hid ((s.mark x.2).T.length = N ∧ (s.mark x.2).r = r) := hid ⟨(s.mark_len x.2).trans hl, (s.mark_r x.2).trans hr⟩
            clear hL t5 k5 hR hC hl hr hL4 h2
            generalize s.fr x.2 = ta at *
            have ne2 : (ta != ta) = false := by simp
            refine hK.out _ _ ((World.cell?_of_block K5.out).trans y1) (fun HS => ?_)
            clear hK K
            try simp only [Act.put, List.setIfInBounds_toArray, List.set_cons_zero, List.set_cons_succ]
            refine wpAnyH_ready (rs := [7]) (by kernel_rfl) (by simp) ?_
            refine AllReadyH.cons (o := ?om7) ?hom7 (fun K hK => ?stepm7) AllReadyH.nil
            case hom7 => simp only [List.getElem?_toArray, List.getElem?_cons_succ, List.getElem?_cons_zero]; exact rfl
            go_simp
            refine hc.mono ?_
            rintro e w6 ⟨L', rfl, hL, hC⟩
            obtain ⟨t6, k6⟩ := H2.out w6 L' _ hL hC HSN.out.1 HSN.out.2
            have T6 := hid t6
            have K6 : Hid (w6.heap[v]? = w4.heap[v]?) := hid ((k6 v rfl).trans K5.out)
            clear hL hC t6 k6 hc H2
            refine hK.out _ _ ((World.cell?_of_block K6.out).trans y1) (fun HS => ?_)
            clear hK K
            try simp only [Act.put, List.setIfInBounds_toArray, List.set_cons_zero, List.set_cons_succ]
            refine wpAnyH_take (i := 8) (oi := ?oim8) (v := ?vm8) ?him8 (by kernel_rfl) (by kernel_rfl) (by kernel_rfl) ?hQm8 ?hym8 HS ?restm8
            case him8 => simp only [List.getElem?_toArray, List.getElem?_cons_succ, List.getElem?_cons_zero]; exact rfl
            case hQm8 => exact fun _ _ _ h => h
            case hym8 =>
              refine Or.inl ⟨by rfl, ?_⟩
              intro wS hSw
              go_simp
              try with_reducible rfl
            try simp only [Act.put, List.setIfInBounds_toArray, List.set_cons_zero, List.set_cons_succ]
            refine wpAnyH_done (by kernel_rfl) ?_ _
            clear HS
            go_wp2_with fail
            go_meet
            case rel => exact ⟨_, T6, hid HSN.out.1, K6⟩
          · as_aux_lemma =>
            have HT4d := hid (HT4.out.go (wr' := w4.drew) ((Below.refl _ _).drew))
            have hc := give_any w4.drew g k s HT4d.out.mp x.2
            have y1d : w4.drew.cell? ⟨v, 1, none⟩ = some (.int .i64 x.2) := by simpa using y1
            go_wp2_with fail
            refine wp_region_held_drew (S := fun wx => wx.cell? ⟨v, 1, none⟩ = some (.int .i64 x.2)) (by kernel_rfl) y1d (fun HS => ?_)
            refine wpAnyH_take (i := 0) (oi := ?oig0) (v := ?vg0) ?hig0 (by kernel_rfl) (by kernel_rfl) (by kernel_rfl) ?hQg0 ?hyg0 HS ?restg0
            case hig0 => simp only [List.getElem?_toArray, List.getElem?_cons_zero]; exact rfl
            case hQg0 => exact fun _ _ _ h => h
            case hyg0 =>
              refine Or.inl ⟨by rfl, ?_⟩
              intro wS hSw
              go_simp
              try with_reducible rfl
            try simp only [Act.put, List.setIfInBounds_toArray, List.set_cons_zero, List.set_cons_succ]
            refine wpAnyH_take (i := 1) (oi := ?oig1) (v := ?vg1) ?hig1 (by kernel_rfl) (by kernel_rfl) (by kernel_rfl) ?hQg1 ?hyg1 HS ?restg1
            case hig1 => simp only [List.getElem?_toArray, List.getElem?_cons_succ, List.getElem?_cons_zero]; exact rfl
            case hQg1 => exact fun _ _ _ h => h
            case hyg1 =>
              refine Or.inl ⟨by rfl, ?_⟩
              intro wS hSw
              go_simp
              try with_reducible rfl
            try simp only [Act.put, List.setIfInBounds_toArray, List.set_cons_zero, List.set_cons_succ]
            refine wpAnyH_take (i := 2) (oi := ?oig2) (v := ?vg2) ?hig2 (by kernel_rfl) (by kernel_rfl) (by kernel_rfl) ?hQg2 ?hyg2 HS ?restg2
            case hig2 => simp only [List.getElem?_toArray, List.getElem?_cons_succ, List.getElem?_cons_zero]; exact rfl
            case hQg2 => exact fun _ _ _ h => h
            case hyg2 =>
              refine Or.inl ⟨by rfl, ?_⟩
              intro wS hSw
              have z0 := hSw
              go_simp
              try with_reducible rfl
            try simp only [Act.put, List.setIfInBounds_toArray, List.set_cons_zero, List.set_cons_succ]
            refine wpAnyH_take (i := 4) (oi := ?oig4) (v := ?vg4) ?hig4 (by kernel_rfl) (by kernel_rfl) (by kernel_rfl) ?hQg4 ?hyg4 HS ?restg4
            case hig4 => simp only [List.getElem?_toArray, List.getElem?_cons_succ, List.getElem?_cons_zero]; exact rfl
            case hQg4 => exact fun _ _ _ h => h
            case hyg4 =>
              refine Or.inl ⟨by rfl, ?_⟩
              intro wS hSw
              go_simp
              try with_reducible rfl
            try simp only [Act.put, List.setIfInBounds_toArray, List.set_cons_zero, List.set_cons_succ]
            refine wpAnyH_take (i := 5) (oi := ?oig5) (v := ?vg5) ?hig5 (by kernel_rfl) (by kernel_rfl) (by kernel_rfl) ?hQg5 ?hyg5 HS ?restg5
            case hig5 => simp only [List.getElem?_toArray, List.getElem?_cons_succ, List.getElem?_cons_zero]; exact rfl
            case hQg5 => exact fun _ _ _ h => h
            case hyg5 =>
              refine Or.inl ⟨by rfl, ?_⟩
              intro wS hSw
              go_simp
              try with_reducible rfl
            try simp only [Act.put, List.setIfInBounds_toArray, List.set_cons_zero, List.set_cons_succ]
            refine wpAnyH_take (i := 6) (oi := ?oig6) (v := ?vg6) ?hig6 (by kernel_rfl) (by kernel_rfl) (by kernel_rfl) ?hQg6 ?hyg6 HS ?restg6
            case hig6 => simp only [List.getElem?_toArray, List.getElem?_cons_succ, List.getElem?_cons_zero]; exact rfl
            case hQg6 => exact fun _ _ _ h => h
            case hyg6 =>
              refine Or.inl ⟨by rfl, ?_⟩
              intro wS hSw
              have z0 := hSw
              go_simp
              try with_reducible rfl
            try simp only [Act.put, List.setIfInBounds_toArray, List.set_cons_zero, List.set_cons_succ]
            refine wpAnyH_ready (rs := [3]) (by kernel_rfl) (by simp) ?_
            refine AllReadyH.cons (o := ?og3) ?hog3 (fun K hK => ?stepg3) AllReadyH.nil
            case hog3 => simp only [List.getElem?_toArray, List.getElem?_cons_succ, List.getElem?_cons_zero]; exact rfl
            go_simp
            refine hc.mono ?_
            rintro e w5 ⟨rfl, hL⟩
            obtain ⟨t5, k5⟩ := HT4d.out.one hL
            obtain ⟨G, L, hR, hC, hl, hr, hL4, h2⟩ := t5.two HN4.out
            have H2 := hid h2
            have K5 : Hid (w5.heap[v]? = w4.heap[v]?) := hid (k5 v rfl)
            have hc := rgive_any w5 G ge N r L s hC hl hr hR hL4 x.2
            have HSN : Hid ((s.give x.2).T.length = N ∧ (s.give x.2).r = r) := hid ⟨(s.give_len x.2).trans hl, (s.give_r x.2).trans hr⟩
            clear hL t5 k5 hR hC hl hr hL4 h2
            generalize s.gv x.2 = ta at *
            have ne2 : (ta != ta) = false := by simp
            refine hK.out _ _ ((World.cell?_of_block K5.out).trans y1) (fun HS => ?_)
            clear hK K
            try simp only [Act.put, List.setIfInBounds_toArray, List.set_cons_zero, List.set_cons_succ]
            refine wpAnyH_ready (rs := [7]) (by kernel_rfl) (by simp) ?_
            refine AllReadyH.cons (o := ?og7) ?hog7 (fun K hK => ?stepg7) AllReadyH.nil
            case hog7 => simp only [List.getElem?_toArray, List.getElem?_cons_succ, List.getElem?_cons_zero]; exact rfl
            go_simp
            refine hc.mono ?_
            rintro e w6 ⟨L', rfl, hL, hC⟩
            obtain ⟨t6, k6⟩ := H2.out w6 L' _ hL hC HSN.out.1 HSN.out.2
            have T6 := hid t6
            have K6 : Hid (w6.heap[v]? = w4.heap[v]?) := hid ((k6 v rfl).trans K5.out)
            clear hL hC t6 k6 hc H2
            refine hK.out _ _ ((World.cell?_of_block K6.out).trans y1) (fun HS => ?_)
            clear hK K
            try simp only [Act.put, List.setIfInBounds_toArray, List.set_cons_zero, List.set_cons_succ]
            refine wpAnyH_take (i := 8) (oi := ?oig8) (v := ?vg8) ?hig8 (by kernel_rfl) (by kernel_rfl) (by kernel_rfl) ?hQg8 ?hyg8 HS ?restg8
            case hig8 => simp only [List.getElem?_toArray, List.getElem?_cons_succ, List.getElem?_cons_zero]; exact rfl
            case hQg8 => exact fun _ _ _ h => h
            case hyg8 =>
              refine Or.inl ⟨by rfl, ?_⟩
              intro wS hSw
              go_simp
              try with_reducible rfl
            try simp only [Act.put, List.setIfInBounds_toArray, List.set_cons_zero, List.set_cons_succ]
            refine wpAnyH_done (by kernel_rfl) ?_ _
            clear HS
            go_wp2_with fail
            go_meet
            case rel => exact ⟨_, T6, hid HSN.out.1, K6⟩
        case rest =>
          obtain ⟨s', hT7, hn7, hK7⟩ := hcut
          have z1 : wc.cell? ⟨v, 1, none⟩ = some (.int .i64 x.2) := (World.cell?_of_block hK7.out).trans y1
          have HZ := hid z1
          clear y0 y1 HT4 hk1 HKD hK7 hsn z1
          go_wp2_with fail
          go_loopg [17] (N + 2) (fun q' iv wr => ∃ q : Nat, iv = .int .i64 ((q : Int) - 1) ∧ Hid (q' = N + 2 - q) ∧ Hid (q ≤ N + 2) ∧ Hid (Tw w wr g k ge N r s' s' (fun x => x = v)) ∧ Hid (wr.cell? ⟨v, 1, none⟩ = some (.int .i64 x.2)))
          case atStart => exact ⟨0, rfl, hid (by omega), hid (Nat.zero_le _), hT7, HZ⟩
          case round =>
            obtain ⟨q, rfl, hgq, hq, hT8, hz8⟩ := hrel
            clear HZ hT7
            rcases Nat.lt_or_ge q (N + 2) with hql | hqg
            · have q3 : decide ((q : Int) - 1 ≤ (N : Int)) = true := by simp; omega
              have wq : Hid (wrap64 ((q : Int) - 1 + 1) = ((q + 1 : Nat) : Int) - 1) := hid (by have := HN30.out; unfold wrap64; omega)
              have HQL := hid hql
              have hc := taken_c wr g k s' hT8.out.mp ((q : Int) - 1)
              generalize hii : (q : Int) - 1 = ii at *
              clear hii hql
              by_cases hin : 0 ≤ ii ∧ ii < (N : Int)
              · have i1 : decide (0 ≤ ii) = true := by simpa using hin.1
                have i2 : decide (ii < (N : Int)) = true := by simpa using hin.2
                have hc2 := hT8.out.is HN4.out ii
                rw [s'.tk_fr ii hin.1 (by rw [hn7.out]; exact hin.2)] at hc2
                generalize s'.tk ii = tb at *
                have ne : (tb != tb) = false := by simp
                have wq' := wq.out
                clear hin
                as_aux_lemma =>
                go_wp2_with fail
                refine hc.mono ?_
                rintro e w' ⟨rfl, rfl⟩
                go_wp2_with fail
                refine hc2.mono ?_
                rintro e w' ⟨rfl, rfl⟩
                clear hc hc2
                go_wp2
                go_roundg (N + 2 - (q + 1))
                case measure => have := hgq.out; have := HQL.out; omega
                case rel => exact ⟨q + 1, congrArg (Value.int .i64) (by first | exact wq' | omega | rfl), hid rfl, hid (by have := HQL.out; omega), hT8, hz8⟩
              · have hw : decide (0 ≤ ii) = false ∨ (decide (0 ≤ ii) = true ∧ decide (ii < (N : Int)) = false) := by
                  simp only [decide_eq_true_eq, decide_eq_false_iff_not]
                  omega
                rw [s'.tk_no ii (by rw [hn7.out]; omega)] at hc
                have wq' := wq.out
                clear hin
                rcases hw with i1 | ⟨i1, i2⟩
                all_goals
                  as_aux_lemma =>
                  go_wp2_with fail
                  refine hc.mono ?_
                  rintro e w' ⟨rfl, rfl⟩
                  clear hc
                  go_wp2
                  go_roundg (N + 2 - (q + 1))
                  case measure => have := hgq.out; have := HQL.out; omega
                  case rel => exact ⟨q + 1, congrArg (Value.int .i64) (by first | exact wq' | omega | rfl), hid rfl, hid (by have := HQL.out; omega), hT8, hz8⟩
            · have q3 : decide ((q : Int) - 1 ≤ (N : Int)) = false := by simp; omega
              have HT9 : Hid (Tw w wr.drew g k ge N r s' s' (fun x => x = v)) := hid (hT8.out.go ((Below.refl _ _).drew))
              have hz9 : wr.drew.cell? ⟨v, 1, none⟩ = some (.int .i64 x.2) := by simpa using hz8.out
              have hcf := free_c wr.drew g k s' HT9.out.mp
              have hct := taken_c wr.drew g k s' HT9.out.mp x.2
              obtain ⟨FA, Fc, hfl⟩ := HT9.out.fld
              have hci := HT9.out.is HN4.out x.2
              have nef : ((s'.free : Int) != (s'.free : Int)) = false := by simp
              generalize s'.free = ff at *
              generalize hq1 : (q : Int) - 1 = ii at *
              clear hgq hq hqg hT8 hz8 hq1
              by_cases hin : 0 ≤ x.2 ∧ x.2 < (N : Int)
              · have i1 : decide (0 ≤ x.2) = true := by simpa using hin.1
                have i2 : decide (x.2 < (N : Int)) = true := by simpa using hin.2
                rw [s'.tk_fr x.2 hin.1 (by rw [hn7.out]; exact hin.2)] at hci
                generalize s'.tk x.2 = tb at *
                have ne : (tb != tb) = false := by simp
                clear hin
                as_aux_lemma =>
                go_wp2_with fail
                refine wp_region_held_drew (S := fun wx => wx = wr.drew) (by kernel_rfl) rfl (fun HS => ?_)
                generalize wr.drew = w9 at *
                refine wpAnyH_take (i := 0) (oi := ?oip0) (v := ?vp0) ?hip0 (by kernel_rfl) (by kernel_rfl) (by kernel_rfl) ?hQp0 ?hyp0 HS ?restp0
                case hip0 => simp only [List.getElem?_toArray, List.getElem?_cons_zero]; exact rfl
                case hQp0 => exact fun _ _ _ h => h
                case hyp0 =>
                  refine Or.inl ⟨by rfl, ?_⟩
                  intro wS hSw
                  go_simp
                  try with_reducible rfl
                try simp only [Act.put, List.setIfInBounds_toArray, List.set_cons_zero, List.set_cons_succ]
                refine wpAnyH_take (i := 2) (oi := ?oip2) (v := ?vp2) ?hip2 (by kernel_rfl) (by kernel_rfl) (by kernel_rfl) ?hQp2 ?hyp2 HS ?restp2
                case hip2 => simp only [List.getElem?_toArray, List.getElem?_cons_succ, List.getElem?_cons_zero]; exact rfl
                case hQp2 => exact fun _ _ _ h => h
                case hyp2 =>
                  refine Or.inl ⟨by rfl, ?_⟩
                  intro wS hSw
                  go_simp
                  try with_reducible rfl
                try simp only [Act.put, List.setIfInBounds_toArray, List.set_cons_zero, List.set_cons_succ]
                refine wpAnyH_take (i := 3) (oi := ?oip3) (v := ?vp3) ?hip3 (by kernel_rfl) (by kernel_rfl) (by kernel_rfl) ?hQp3 ?hyp3 HS ?restp3
                case hip3 => simp only [List.getElem?_toArray, List.getElem?_cons_succ, List.getElem?_cons_zero]; exact rfl
                case hQp3 => exact fun _ _ _ h => h
                case hyp3 =>
                  refine Or.inl ⟨by rfl, ?_⟩
                  intro wS hSw
                  subst hSw
                  go_simp
                  try with_reducible rfl
                try simp only [Act.put, List.setIfInBounds_toArray, List.set_cons_zero, List.set_cons_succ]
                refine wpAnyH_take (i := 4) (oi := ?oip4) (v := ?vp4) ?hip4 (by kernel_rfl) (by kernel_rfl) (by kernel_rfl) ?hQp4 ?hyp4 HS ?restp4
                case hip4 => simp only [List.getElem?_toArray, List.getElem?_cons_succ, List.getElem?_cons_zero]; exact rfl
                case hQp4 => exact fun _ _ _ h => h
                case hyp4 =>
                  refine Or.inl ⟨by rfl, ?_⟩
                  intro wS hSw
                  go_simp
                  try with_reducible rfl
                try simp only [Act.put, List.setIfInBounds_toArray, List.set_cons_zero, List.set_cons_succ]
                refine wpAnyH_take (i := 5) (oi := ?oip5) (v := ?vp5) ?hip5 (by kernel_rfl) (by kernel_rfl) (by kernel_rfl) ?hQp5 ?hyp5 HS ?restp5
                case hip5 => simp only [List.getElem?_toArray, List.getElem?_cons_succ, List.getElem?_cons_zero]; exact rfl
                case hQp5 => exact fun _ _ _ h => h
                case hyp5 =>
                  refine Or.inl ⟨by rfl, ?_⟩
                  intro wS hSw
                  subst hSw
                  go_simp
                  try with_reducible rfl
                try simp only [Act.put, List.setIfInBounds_toArray, List.set_cons_zero, List.set_cons_succ]
                refine wpAnyH_take (i := 6) (oi := ?oip6) (v := ?vp6) ?hip6 (by kernel_rfl) (by kernel_rfl) (by kernel_rfl) ?hQp6 ?hyp6 HS ?restp6
                case hip6 => simp only [List.getElem?_toArray, List.getElem?_cons_succ, List.getElem?_cons_zero]; exact rfl
                case hQp6 => exact fun _ _ _ h => h
                case hyp6 =>
                  refine Or.inl ⟨by rfl, ?_⟩
                  intro wS hSw
                  go_simp
                  try with_reducible rfl
                try simp only [Act.put, List.setIfInBounds_toArray, List.set_cons_zero, List.set_cons_succ]
                refine wpAnyH_ready (rs := [1]) (by kernel_rfl) (by simp) ?_
                refine AllReadyH.cons (o := ?op1) ?hop1 (fun K hK => ?stepp1) AllReadyH.nil
                case hop1 => simp only [List.getElem?_toArray, List.getElem?_cons_succ, List.getElem?_cons_zero]; exact rfl
                go_simp
                refine hcf.mono ?_
                rintro e wa ⟨rfl, rfl⟩
                refine hK.out _ _ HS (fun HS => ?_)
                clear hK K
                try simp only [Act.put, List.setIfInBounds_toArray, List.set_cons_zero, List.set_cons_succ]
                refine wpAnyH_take (i := 7) (oi := ?oip7) (v := ?vp7) ?hip7 (by kernel_rfl) (by kernel_rfl) (by kernel_rfl) ?hQp7 ?hyp7 HS ?restp7
                case hip7 => simp only [List.getElem?_toArray, List.getElem?_cons_succ, List.getElem?_cons_zero]; exact rfl
                case hQp7 => exact fun _ _ _ h => h
                case hyp7 =>
                  refine Or.inl ⟨by rfl, ?_⟩
                  intro wS hSw
                  go_simp
                  try with_reducible rfl
                try simp only [Act.put, List.setIfInBounds_toArray, List.set_cons_zero, List.set_cons_succ]
                refine wpAnyH_take (i := 8) (oi := ?oip8) (v := ?vp8) ?hip8 (by kernel_rfl) (by kernel_rfl) (by kernel_rfl) ?hQp8 ?hyp8 HS ?restp8
                case hip8 => simp only [List.getElem?_toArray, List.getElem?_cons_succ, List.getElem?_cons_zero]; exact rfl
                case hQp8 => exact fun _ _ _ h => h
                case hyp8 =>
                  refine Or.inl ⟨by rfl, ?_⟩
                  intro wS hSw
                  go_simp
                  try with_reducible rfl
                try simp only [Act.put, List.setIfInBounds_toArray, List.set_cons_zero, List.set_cons_succ]
                refine wpAnyH_take (i := 9) (oi := ?oip9) (v := ?vp9) ?hip9 (by kernel_rfl) (by kernel_rfl) (by kernel_rfl) ?hQp9 ?hyp9 HS ?restp9
                case hip9 => simp only [List.getElem?_toArray, List.getElem?_cons_succ, List.getElem?_cons_zero]; exact rfl
                case hQp9 => exact fun _ _ _ h => h
                case hyp9 =>
                  refine Or.inl ⟨by rfl, ?_⟩
                  intro wS hSw
                  go_simp
                  try with_reducible rfl
                try simp only [Act.put, List.setIfInBounds_toArray, List.set_cons_zero, List.set_cons_succ]
                refine wpAnyH_take (i := 10) (oi := ?oip10) (v := ?vp10) ?hip10 (by kernel_rfl) (by kernel_rfl) (by kernel_rfl) ?hQp10 ?hyp10 HS ?restp10
                case hip10 => simp only [List.getElem?_toArray, List.getElem?_cons_succ, List.getElem?_cons_zero]; exact rfl
                case hQp10 => exact fun _ _ _ h => h
                case hyp10 =>
                  refine Or.inl ⟨by rfl, ?_⟩
                  intro wS hSw
                  go_simp
                  try with_reducible rfl
                try simp only [Act.put, List.setIfInBounds_toArray, List.set_cons_zero, List.set_cons_succ]
                refine wpAnyH_take (i := 11) (oi := ?oip11) (v := ?vp11) ?hip11 (by kernel_rfl) (by kernel_rfl) (by kernel_rfl) ?hQp11 ?hyp11 HS ?restp11
                case hip11 => simp only [List.getElem?_toArray, List.getElem?_cons_succ, List.getElem?_cons_zero]; exact rfl
                case hQp11 => exact fun _ _ _ h => h
                case hyp11 =>
                  refine Or.inl ⟨by rfl, ?_⟩
                  intro wS hSw
                  subst hSw
                  go_simp
                  try with_reducible rfl
                try simp only [Act.put, List.setIfInBounds_toArray, List.set_cons_zero, List.set_cons_succ]
                refine wpAnyH_take (i := 13) (oi := ?oip13) (v := ?vp13) ?hip13 (by kernel_rfl) (by kernel_rfl) (by kernel_rfl) ?hQp13 ?hyp13 HS ?restp13
                case hip13 => simp only [List.getElem?_toArray, List.getElem?_cons_succ, List.getElem?_cons_zero]; exact rfl
                case hQp13 => exact fun _ _ _ h => h
                case hyp13 =>
                  refine Or.inl ⟨by rfl, ?_⟩
                  intro wS hSw
                  go_simp
                  try with_reducible rfl
                try simp only [Act.put, List.setIfInBounds_toArray, List.set_cons_zero, List.set_cons_succ]
                refine wpAnyH_take (i := 14) (oi := ?oip14) (v := ?vp14) ?hip14 (by kernel_rfl) (by kernel_rfl) (by kernel_rfl) ?hQp14 ?hyp14 HS ?restp14
                case hip14 => simp only [List.getElem?_toArray, List.getElem?_cons_succ, List.getElem?_cons_zero]; exact rfl
                case hQp14 => exact fun _ _ _ h => h
                case hyp14 =>
                  refine Or.inl ⟨by rfl, ?_⟩
                  intro wS hSw
                  subst hSw
                  go_simp
                  try with_reducible rfl
                try simp only [Act.put, List.setIfInBounds_toArray, List.set_cons_zero, List.set_cons_succ]
                refine wpAnyH_take (i := 15) (oi := ?oip15) (v := ?vp15) ?hip15 (by kernel_rfl) (by kernel_rfl) (by kernel_rfl) ?hQp15 ?hyp15 HS ?restp15
                case hip15 => simp only [List.getElem?_toArray, List.getElem?_cons_succ, List.getElem?_cons_zero]; exact rfl
                case hQp15 => exact fun _ _ _ h => h
                case hyp15 =>
                  refine Or.inl ⟨by rfl, ?_⟩
                  intro wS hSw
                  go_simp
                  try with_reducible rfl
                try simp only [Act.put, List.setIfInBounds_toArray, List.set_cons_zero, List.set_cons_succ]
                refine wpAnyH_ready (rs := [12]) (by kernel_rfl) (by simp) ?_
                refine AllReadyH.cons (o := ?op12) ?hop12 (fun K hK => ?stepp12) AllReadyH.nil
                case hop12 => simp only [List.getElem?_toArray, List.getElem?_cons_succ, List.getElem?_cons_zero]; exact rfl
                go_simp
                refine hct.mono ?_
                rintro e wa ⟨rfl, rfl⟩
                refine hK.out _ _ HS (fun HS => ?_)
                clear hK K
                try simp only [Act.put, List.setIfInBounds_toArray, List.set_cons_zero, List.set_cons_succ]
                refine wpAnyH_take (i := 16) (oi := ?oip16) (v := ?vp16) ?hip16 (by kernel_rfl) (by kernel_rfl) (by kernel_rfl) ?hQp16 ?hyp16 HS ?restp16
                case hip16 => simp only [List.getElem?_toArray, List.getElem?_cons_succ, List.getElem?_cons_zero]; exact rfl
                case hQp16 => exact fun _ _ _ h => h
                case hyp16 =>
                  refine Or.inl ⟨by rfl, ?_⟩
                  intro wS hSw
                  go_simp
                  try with_reducible rfl
                try simp only [Act.put, List.setIfInBounds_toArray, List.set_cons_zero, List.set_cons_succ]
                refine wpAnyH_take (i := 17) (oi := ?oip17) (v := ?vp17) ?hip17 (by kernel_rfl) (by kernel_rfl) (by kernel_rfl) ?hQp17 ?hyp17 HS ?restp17
                case hip17 => simp only [List.getElem?_toArray, List.getElem?_cons_succ, List.getElem?_cons_zero]; exact rfl
                case hQp17 => exact fun _ _ _ h => h
                case hyp17 =>
                  refine Or.inl ⟨by rfl, ?_⟩
                  intro wS hSw
                  go_simp
                  try with_reducible rfl
                try simp only [Act.put, List.setIfInBounds_toArray, List.set_cons_zero, List.set_cons_succ]
                refine wpAnyH_take (i := 18) (oi := ?oip18) (v := ?vp18) ?hip18 (by kernel_rfl) (by kernel_rfl) (by kernel_rfl) ?hQp18 ?hyp18 HS ?restp18
                case hip18 => simp only [List.getElem?_toArray, List.getElem?_cons_succ, List.getElem?_cons_zero]; exact rfl
                case hQp18 => exact fun _ _ _ h => h
                case hyp18 =>
                  refine Or.inl ⟨by rfl, ?_⟩
                  intro wS hSw
                  subst hSw
                  go_simp
                  try with_reducible rfl
                try simp only [Act.put, List.setIfInBounds_toArray, List.set_cons_zero, List.set_cons_succ]
                refine wpAnyH_take (i := 19) (oi := ?oip19) (v := ?vp19) ?hip19 (by kernel_rfl) (by kernel_rfl) (by kernel_rfl) ?hQp19 ?hyp19 HS ?restp19
                case hip19 => simp only [List.getElem?_toArray, List.getElem?_cons_succ, List.getElem?_cons_zero]; exact rfl
                case hQp19 => exact fun _ _ _ h => h
                case hyp19 =>
                  refine Or.inl ⟨by rfl, ?_⟩
                  intro wS hSw
                  go_simp
                  try with_reducible rfl
                try simp only [Act.put, List.setIfInBounds_toArray, List.set_cons_zero, List.set_cons_succ]
                refine wpAnyH_take (i := 20) (oi := ?oip20) (v := ?vp20) ?hip20 (by kernel_rfl) (by kernel_rfl) (by kernel_rfl) ?hQp20 ?hyp20 HS ?restp20
                case hip20 => simp only [List.getElem?_toArray, List.getElem?_cons_succ, List.getElem?_cons_zero]; exact rfl
                case hQp20 => exact fun _ _ _ h => h
                case hyp20 =>
                  refine Or.inl ⟨by rfl, ?_⟩
                  intro wS hSw
                  go_simp
                  try with_reducible rfl
                try simp only [Act.put, List.setIfInBounds_toArray, List.set_cons_zero, List.set_cons_succ]
                refine wpAnyH_take (i := 21) (oi := ?oip21) (v := ?vp21) ?hip21 (by kernel_rfl) (by kernel_rfl) (by kernel_rfl) ?hQp21 ?hyp21 HS ?restp21
                case hip21 => simp only [List.getElem?_toArray, List.getElem?_cons_succ, List.getElem?_cons_zero]; exact rfl
                case hQp21 => exact fun _ _ _ h => h
                case hyp21 =>
                  refine Or.inl ⟨by rfl, ?_⟩
                  intro wS hSw
                  go_simp
                  try with_reducible rfl
                try simp only [Act.put, List.setIfInBounds_toArray, List.set_cons_zero, List.set_cons_succ]
                refine wpAnyH_take (i := 22) (oi := ?oip22) (v := ?vp22) ?hip22 (by kernel_rfl) (by kernel_rfl) (by kernel_rfl) ?hQp22 ?hyp22 HS ?restp22
                case hip22 => simp only [List.getElem?_toArray, List.getElem?_cons_succ, List.getElem?_cons_zero]; exact rfl
                case hQp22 => exact fun _ _ _ h => h
                case hyp22 =>
                  refine Or.inl ⟨by rfl, ?_⟩
                  intro wS hSw
                  go_simp
                  try with_reducible rfl
                try simp only [Act.put, List.setIfInBounds_toArray, List.set_cons_zero, List.set_cons_succ]
                refine wpAnyH_take (i := 23) (oi := ?oip23) (v := ?vp23) ?hip23 (by kernel_rfl) (by kernel_rfl) (by kernel_rfl) ?hQp23 ?hyp23 HS ?restp23
                case hip23 => simp only [List.getElem?_toArray, List.getElem?_cons_succ, List.getElem?_cons_zero]; exact rfl
                case hQp23 => exact fun _ _ _ h => h
                case hyp23 =>
                  refine Or.inl ⟨by rfl, ?_⟩
                  intro wS hSw
                  go_simp
                  try with_reducible rfl
                try simp only [Act.put, List.setIfInBounds_toArray, List.set_cons_zero, List.set_cons_succ]
                refine wpAnyH_take (i := 24) (oi := ?oip24) (v := ?vp24) ?hip24 (by kernel_rfl) (by kernel_rfl) (by kernel_rfl) ?hQp24 ?hyp24 HS ?restp24
                case hip24 => simp only [List.getElem?_toArray, List.getElem?_cons_succ, List.getElem?_cons_zero]; exact rfl
                case hQp24 => exact fun _ _ _ h => h
                case hyp24 =>
                  refine Or.inl ⟨by rfl, ?_⟩
                  intro wS hSw
                  go_simp
                  try with_reducible rfl
                try simp only [Act.put, List.setIfInBounds_toArray, List.set_cons_zero, List.set_cons_succ]
                refine wpAnyH_take (i := 25) (oi := ?oip25) (v := ?vp25) ?hip25 (by kernel_rfl) (by kernel_rfl) (by kernel_rfl) ?hQp25 ?hyp25 HS ?restp25
                case hip25 => simp only [List.getElem?_toArray, List.getElem?_cons_succ, List.getElem?_cons_zero]; exact rfl
                case hQp25 => exact fun _ _ _ h => h
                case hyp25 =>
                  refine Or.inl ⟨by rfl, ?_⟩
                  intro wS hSw
                  subst hSw
                  go_simp
                  try with_reducible rfl
                try simp only [Act.put, List.setIfInBounds_toArray, List.set_cons_zero, List.set_cons_succ]
                refine wpAnyH_ready (rs := [26]) (by kernel_rfl) (by simp) ?_
                refine AllReadyH.cons (o := ?op26) ?hop26 (fun K hK => ?stepp26) AllReadyH.nil
                case hop26 => simp only [List.getElem?_toArray, List.getElem?_cons_succ, List.getElem?_cons_zero]; exact rfl
                go_simp
                refine hci.mono ?_
                rintro e wa ⟨rfl, rfl⟩
                refine hK.out _ _ HS (fun HS => ?_)
                clear hK K
                try simp only [Act.put, List.setIfInBounds_toArray, List.set_cons_zero, List.set_cons_succ]
                refine wpAnyH_take (i := 27) (oi := ?oip27) (v := ?vp27) ?hip27 (by kernel_rfl) (by kernel_rfl) (by kernel_rfl) ?hQp27 ?hyp27 HS ?restp27
                case hip27 => simp only [List.getElem?_toArray, List.getElem?_cons_succ, List.getElem?_cons_zero]; exact rfl
                case hQp27 => exact fun _ _ _ h => h
                case hyp27 =>
                  refine Or.inl ⟨by rfl, ?_⟩
                  intro wS hSw
                  go_simp
                  try with_reducible rfl
                try simp only [Act.put, List.setIfInBounds_toArray, List.set_cons_zero, List.set_cons_succ]
                refine wpAnyH_take (i := 28) (oi := ?oip28) (v := ?vp28) ?hip28 (by kernel_rfl) (by kernel_rfl) (by kernel_rfl) ?hQp28 ?hyp28 HS ?restp28
                case hip28 => simp only [List.getElem?_toArray, List.getElem?_cons_succ, List.getElem?_cons_zero]; exact rfl
                case hQp28 => exact fun _ _ _ h => h
                case hyp28 =>
                  refine Or.inl ⟨by rfl, ?_⟩
                  intro wS hSw
                  go_simp
                  try with_reducible rfl
                try simp only [Act.put, List.setIfInBounds_toArray, List.set_cons_zero, List.set_cons_succ]
                refine wpAnyH_take (i := 29) (oi := ?oip29) (v := ?vp29) ?hip29 (by kernel_rfl) (by kernel_rfl) (by kernel_rfl) ?hQp29 ?hyp29 HS ?restp29
                case hip29 => simp only [List.getElem?_toArray, List.getElem?_cons_succ, List.getElem?_cons_zero]; exact rfl
                case hQp29 => exact fun _ _ _ h => h
                case hyp29 =>
                  refine Or.inl ⟨by rfl, ?_⟩
                  intro wS hSw
                  go_simp
                  try with_reducible rfl
                try simp only [Act.put, List.setIfInBounds_toArray, List.set_cons_zero, List.set_cons_succ]
                refine wpAnyH_take (i := 30) (oi := ?oip30) (v := ?vp30) ?hip30 (by kernel_rfl) (by kernel_rfl) (by kernel_rfl) ?hQp30 ?hyp30 HS ?restp30
                case hip30 => simp only [List.getElem?_toArray, List.getElem?_cons_succ, List.getElem?_cons_zero]; exact rfl
                case hQp30 => exact fun _ _ _ h => h
                case hyp30 =>
                  refine Or.inl ⟨by rfl, ?_⟩
                  intro wS hSw
                  go_simp
                  try with_reducible rfl
                try simp only [Act.put, List.setIfInBounds_toArray, List.set_cons_zero, List.set_cons_succ]
                refine wpAnyH_done (by kernel_rfl) ?_ _
                clear HS
                go_wp2
                go_roundg (n - (j + 1))
                case measure => have := hgk.out; have := HLT.out; omega
                case rel => exact ⟨j + 1, s', congrArg (Value.int .i64) (by first | exact wj | omega | rfl), hid rfl, hid (by have := HLT.out; omega), hid (by have := HJ.out; omega), hn7, hid (HT9.out.less (fun x hx => hx.elim))⟩
              · have hw : decide (0 ≤ x.2) = false ∨ (decide (0 ≤ x.2) = true ∧ decide (x.2 < (N : Int)) = false) := by
                  simp only [decide_eq_true_eq, decide_eq_false_iff_not]
                  omega
                rw [s'.tk_no x.2 (by rw [hn7.out]; omega)] at hct
                clear hin hci
                rcases hw with i1 | ⟨i1, i2⟩
                · as_aux_lemma =>
                  go_wp2_with fail
                  refine wp_region_held_drew (S := fun wx => wx = wr.drew) (by kernel_rfl) rfl (fun HS => ?_)
                  generalize wr.drew = w9 at *
                  refine wpAnyH_take (i := 0) (oi := ?oil0) (v := ?vl0) ?hil0 (by kernel_rfl) (by kernel_rfl) (by kernel_rfl) ?hQl0 ?hyl0 HS ?restl0
                  case hil0 => simp only [List.getElem?_toArray, List.getElem?_cons_zero]; exact rfl
                  case hQl0 => exact fun _ _ _ h => h
                  case hyl0 =>
                    refine Or.inl ⟨by rfl, ?_⟩
                    intro wS hSw
                    go_simp
                    try with_reducible rfl
                  try simp only [Act.put, List.setIfInBounds_toArray, List.set_cons_zero, List.set_cons_succ]
                  refine wpAnyH_take (i := 2) (oi := ?oil2) (v := ?vl2) ?hil2 (by kernel_rfl) (by kernel_rfl) (by kernel_rfl) ?hQl2 ?hyl2 HS ?restl2
                  case hil2 => simp only [List.getElem?_toArray, List.getElem?_cons_succ, List.getElem?_cons_zero]; exact rfl
                  case hQl2 => exact fun _ _ _ h => h
                  case hyl2 =>
                    refine Or.inl ⟨by rfl, ?_⟩
                    intro wS hSw
                    go_simp
                    try with_reducible rfl
                  try simp only [Act.put, List.setIfInBounds_toArray, List.set_cons_zero, List.set_cons_succ]
                  refine wpAnyH_take (i := 3) (oi := ?oil3) (v := ?vl3) ?hil3 (by kernel_rfl) (by kernel_rfl) (by kernel_rfl) ?hQl3 ?hyl3 HS ?restl3
                  case hil3 => simp only [List.getElem?_toArray, List.getElem?_cons_succ, List.getElem?_cons_zero]; exact rfl
                  case hQl3 => exact fun _ _ _ h => h
                  case hyl3 =>
                    refine Or.inl ⟨by rfl, ?_⟩
                    intro wS hSw
                    subst hSw
                    go_simp
                    try with_reducible rfl
                  try simp only [Act.put, List.setIfInBounds_toArray, List.set_cons_zero, List.set_cons_succ]
                  refine wpAnyH_take (i := 4) (oi := ?oil4) (v := ?vl4) ?hil4 (by kernel_rfl) (by kernel_rfl) (by kernel_rfl) ?hQl4 ?hyl4 HS ?restl4
                  case hil4 => simp only [List.getElem?_toArray, List.getElem?_cons_succ, List.getElem?_cons_zero]; exact rfl
                  case hQl4 => exact fun _ _ _ h => h
                  case hyl4 =>
                    refine Or.inl ⟨by rfl, ?_⟩
                    intro wS hSw
                    go_simp
                    try with_reducible rfl
                  try simp only [Act.put, List.setIfInBounds_toArray, List.set_cons_zero, List.set_cons_succ]
                  refine wpAnyH_take (i := 5) (oi := ?oil5) (v := ?vl5) ?hil5 (by kernel_rfl) (by kernel_rfl) (by kernel_rfl) ?hQl5 ?hyl5 HS ?restl5
                  case hil5 => simp only [List.getElem?_toArray, List.getElem?_cons_succ, List.getElem?_cons_zero]; exact rfl
                  case hQl5 => exact fun _ _ _ h => h
                  case hyl5 =>
                    refine Or.inl ⟨by rfl, ?_⟩
                    intro wS hSw
                    subst hSw
                    go_simp
                    try with_reducible rfl
                  try simp only [Act.put, List.setIfInBounds_toArray, List.set_cons_zero, List.set_cons_succ]
                  refine wpAnyH_take (i := 6) (oi := ?oil6) (v := ?vl6) ?hil6 (by kernel_rfl) (by kernel_rfl) (by kernel_rfl) ?hQl6 ?hyl6 HS ?restl6
                  case hil6 => simp only [List.getElem?_toArray, List.getElem?_cons_succ, List.getElem?_cons_zero]; exact rfl
                  case hQl6 => exact fun _ _ _ h => h
                  case hyl6 =>
                    refine Or.inl ⟨by rfl, ?_⟩
                    intro wS hSw
                    go_simp
                    try with_reducible rfl
                  try simp only [Act.put, List.setIfInBounds_toArray, List.set_cons_zero, List.set_cons_succ]
                  refine wpAnyH_ready (rs := [1]) (by kernel_rfl) (by simp) ?_
                  refine AllReadyH.cons (o := ?ol1) ?hol1 (fun K hK => ?stepl1) AllReadyH.nil
                  case hol1 => simp only [List.getElem?_toArray, List.getElem?_cons_succ, List.getElem?_cons_zero]; exact rfl
                  go_simp
                  refine hcf.mono ?_
                  rintro e wa ⟨rfl, rfl⟩
                  refine hK.out _ _ HS (fun HS => ?_)
                  clear hK K
                  try simp only [Act.put, List.setIfInBounds_toArray, List.set_cons_zero, List.set_cons_succ]
                  refine wpAnyH_take (i := 7) (oi := ?oil7) (v := ?vl7) ?hil7 (by kernel_rfl) (by kernel_rfl) (by kernel_rfl) ?hQl7 ?hyl7 HS ?restl7
                  case hil7 => simp only [List.getElem?_toArray, List.getElem?_cons_succ, List.getElem?_cons_zero]; exact rfl
                  case hQl7 => exact fun _ _ _ h => h
                  case hyl7 =>
                    refine Or.inl ⟨by rfl, ?_⟩
                    intro wS hSw
                    go_simp
                    try with_reducible rfl
                  try simp only [Act.put, List.setIfInBounds_toArray, List.set_cons_zero, List.set_cons_succ]
                  refine wpAnyH_take (i := 8) (oi := ?oil8) (v := ?vl8) ?hil8 (by kernel_rfl) (by kernel_rfl) (by kernel_rfl) ?hQl8 ?hyl8 HS ?restl8
                  case hil8 => simp only [List.getElem?_toArray, List.getElem?_cons_succ, List.getElem?_cons_zero]; exact rfl
                  case hQl8 => exact fun _ _ _ h => h
                  case hyl8 =>
                    refine Or.inl ⟨by rfl, ?_⟩
                    intro wS hSw
                    go_simp
                    try with_reducible rfl
                  try simp only [Act.put, List.setIfInBounds_toArray, List.set_cons_zero, List.set_cons_succ]
                  refine wpAnyH_take (i := 9) (oi := ?oil9) (v := ?vl9) ?hil9 (by kernel_rfl) (by kernel_rfl) (by kernel_rfl) ?hQl9 ?hyl9 HS ?restl9
                  case hil9 => simp only [List.getElem?_toArray, List.getElem?_cons_succ, List.getElem?_cons_zero]; exact rfl
                  case hQl9 => exact fun _ _ _ h => h
                  case hyl9 =>
                    refine Or.inl ⟨by rfl, ?_⟩
                    intro wS hSw
                    go_simp
                    try with_reducible rfl
                  try simp only [Act.put, List.setIfInBounds_toArray, List.set_cons_zero, List.set_cons_succ]
                  refine wpAnyH_take (i := 10) (oi := ?oil10) (v := ?vl10) ?hil10 (by kernel_rfl) (by kernel_rfl) (by kernel_rfl) ?hQl10 ?hyl10 HS ?restl10
                  case hil10 => simp only [List.getElem?_toArray, List.getElem?_cons_succ, List.getElem?_cons_zero]; exact rfl
                  case hQl10 => exact fun _ _ _ h => h
                  case hyl10 =>
                    refine Or.inl ⟨by rfl, ?_⟩
                    intro wS hSw
                    go_simp
                    try with_reducible rfl
                  try simp only [Act.put, List.setIfInBounds_toArray, List.set_cons_zero, List.set_cons_succ]
                  refine wpAnyH_take (i := 11) (oi := ?oil11) (v := ?vl11) ?hil11 (by kernel_rfl) (by kernel_rfl) (by kernel_rfl) ?hQl11 ?hyl11 HS ?restl11
                  case hil11 => simp only [List.getElem?_toArray, List.getElem?_cons_succ, List.getElem?_cons_zero]; exact rfl
                  case hQl11 => exact fun _ _ _ h => h
                  case hyl11 =>
                    refine Or.inl ⟨by rfl, ?_⟩
                    intro wS hSw
                    subst hSw
                    go_simp
                    try with_reducible rfl
                  try simp only [Act.put, List.setIfInBounds_toArray, List.set_cons_zero, List.set_cons_succ]
                  refine wpAnyH_take (i := 13) (oi := ?oil13) (v := ?vl13) ?hil13 (by kernel_rfl) (by kernel_rfl) (by kernel_rfl) ?hQl13 ?hyl13 HS ?restl13
                  case hil13 => simp only [List.getElem?_toArray, List.getElem?_cons_succ, List.getElem?_cons_zero]; exact rfl
                  case hQl13 => exact fun _ _ _ h => h
                  case hyl13 =>
                    refine Or.inl ⟨by rfl, ?_⟩
                    intro wS hSw
                    go_simp
                    try with_reducible rfl
                  try simp only [Act.put, List.setIfInBounds_toArray, List.set_cons_zero, List.set_cons_succ]
                  refine wpAnyH_take (i := 14) (oi := ?oil14) (v := ?vl14) ?hil14 (by kernel_rfl) (by kernel_rfl) (by kernel_rfl) ?hQl14 ?hyl14 HS ?restl14
                  case hil14 => simp only [List.getElem?_toArray, List.getElem?_cons_succ, List.getElem?_cons_zero]; exact rfl
                  case hQl14 => exact fun _ _ _ h => h
                  case hyl14 =>
                    refine Or.inl ⟨by rfl, ?_⟩
                    intro wS hSw
                    subst hSw
                    go_simp
                    try with_reducible rfl
                  try simp only [Act.put, List.setIfInBounds_toArray, List.set_cons_zero, List.set_cons_succ]
                  refine wpAnyH_take (i := 15) (oi := ?oil15) (v := ?vl15) ?hil15 (by kernel_rfl) (by kernel_rfl) (by kernel_rfl) ?hQl15 ?hyl15 HS ?restl15
                  case hil15 => simp only [List.getElem?_toArray, List.getElem?_cons_succ, List.getElem?_cons_zero]; exact rfl
                  case hQl15 => exact fun _ _ _ h => h
                  case hyl15 =>
                    refine Or.inl ⟨by rfl, ?_⟩
                    intro wS hSw
                    go_simp
                    try with_reducible rfl
                  try simp only [Act.put, List.setIfInBounds_toArray, List.set_cons_zero, List.set_cons_succ]
                  refine wpAnyH_ready (rs := [12]) (by kernel_rfl) (by simp) ?_
                  refine AllReadyH.cons (o := ?ol12) ?hol12 (fun K hK => ?stepl12) AllReadyH.nil
                  case hol12 => simp only [List.getElem?_toArray, List.getElem?_cons_succ, List.getElem?_cons_zero]; exact rfl
                  go_simp
                  refine hct.mono ?_
                  rintro e wa ⟨rfl, rfl⟩
                  refine hK.out _ _ HS (fun HS => ?_)
                  clear hK K
                  try simp only [Act.put, List.setIfInBounds_toArray, List.set_cons_zero, List.set_cons_succ]
                  refine wpAnyH_take (i := 16) (oi := ?oil16) (v := ?vl16) ?hil16 (by kernel_rfl) (by kernel_rfl) (by kernel_rfl) ?hQl16 ?hyl16 HS ?restl16
                  case hil16 => simp only [List.getElem?_toArray, List.getElem?_cons_succ, List.getElem?_cons_zero]; exact rfl
                  case hQl16 => exact fun _ _ _ h => h
                  case hyl16 =>
                    refine Or.inl ⟨by rfl, ?_⟩
                    intro wS hSw
                    go_simp
                    try with_reducible rfl
                  try simp only [Act.put, List.setIfInBounds_toArray, List.set_cons_zero, List.set_cons_succ]
                  refine wpAnyH_take (i := 17) (oi := ?oil17) (v := undef) ?hil17 (by kernel_rfl) (by kernel_rfl) (by kernel_rfl) ?hQl17 ?hyl17 HS ?restl17
                  case hil17 => simp only [List.getElem?_toArray, List.getElem?_cons_succ, List.getElem?_cons_zero]; exact rfl
                  case hQl17 => exact fun _ _ _ h => h
                  case hyl17 =>
                    refine Or.inr ⟨by rfl, rfl⟩
                  try simp only [Act.put, List.setIfInBounds_toArray, List.set_cons_zero, List.set_cons_succ]
                  refine wpAnyH_take (i := 18) (oi := ?oil18) (v := undef) ?hil18 (by kernel_rfl) (by kernel_rfl) (by kernel_rfl) ?hQl18 ?hyl18 HS ?restl18
                  case hil18 => simp only [List.getElem?_toArray, List.getElem?_cons_succ, List.getElem?_cons_zero]; exact rfl
                  case hQl18 => exact fun _ _ _ h => h
                  case hyl18 =>
                    refine Or.inr ⟨by rfl, rfl⟩
                  try simp only [Act.put, List.setIfInBounds_toArray, List.set_cons_zero, List.set_cons_succ]
                  refine wpAnyH_take (i := 19) (oi := ?oil19) (v := undef) ?hil19 (by kernel_rfl) (by kernel_rfl) (by kernel_rfl) ?hQl19 ?hyl19 HS ?restl19
                  case hil19 => simp only [List.getElem?_toArray, List.getElem?_cons_succ, List.getElem?_cons_zero]; exact rfl
                  case hQl19 => exact fun _ _ _ h => h
                  case hyl19 =>
                    refine Or.inr ⟨by rfl, rfl⟩
                  try simp only [Act.put, List.setIfInBounds_toArray, List.set_cons_zero, List.set_cons_succ]
                  refine wpAnyH_take (i := 20) (oi := ?oil20) (v := undef) ?hil20 (by kernel_rfl) (by kernel_rfl) (by kernel_rfl) ?hQl20 ?hyl20 HS ?restl20
                  case hil20 => simp only [List.getElem?_toArray, List.getElem?_cons_succ, List.getElem?_cons_zero]; exact rfl
                  case hQl20 => exact fun _ _ _ h => h
                  case hyl20 =>
                    refine Or.inr ⟨by rfl, rfl⟩
                  try simp only [Act.put, List.setIfInBounds_toArray, List.set_cons_zero, List.set_cons_succ]
                  refine wpAnyH_take (i := 21) (oi := ?oil21) (v := ?vl21) ?hil21 (by kernel_rfl) (by kernel_rfl) (by kernel_rfl) ?hQl21 ?hyl21 HS ?restl21
                  case hil21 => simp only [List.getElem?_toArray, List.getElem?_cons_succ, List.getElem?_cons_zero]; exact rfl
                  case hQl21 => exact fun _ _ _ h => h
                  case hyl21 =>
                    refine Or.inl ⟨by rfl, ?_⟩
                    intro wS hSw
                    go_simp
                    try with_reducible rfl
                  try simp only [Act.put, List.setIfInBounds_toArray, List.set_cons_zero, List.set_cons_succ]
                  refine wpAnyH_take (i := 22) (oi := ?oil22) (v := ?vl22) ?hil22 (by kernel_rfl) (by kernel_rfl) (by kernel_rfl) ?hQl22 ?hyl22 HS ?restl22
                  case hil22 => simp only [List.getElem?_toArray, List.getElem?_cons_succ, List.getElem?_cons_zero]; exact rfl
                  case hQl22 => exact fun _ _ _ h => h
                  case hyl22 =>
                    refine Or.inl ⟨by rfl, ?_⟩
                    intro wS hSw
                    go_simp
                    try with_reducible rfl
                  try simp only [Act.put, List.setIfInBounds_toArray, List.set_cons_zero, List.set_cons_succ]
                  refine wpAnyH_take (i := 23) (oi := ?oil23) (v := undef) ?hil23 (by kernel_rfl) (by kernel_rfl) (by kernel_rfl) ?hQl23 ?hyl23 HS ?restl23
                  case hil23 => simp only [List.getElem?_toArray, List.getElem?_cons_succ, List.getElem?_cons_zero]; exact rfl
                  case hQl23 => exact fun _ _ _ h => h
                  case hyl23 =>
                    refine Or.inr ⟨by rfl, rfl⟩
                  try simp only [Act.put, List.setIfInBounds_toArray, List.set_cons_zero, List.set_cons_succ]
                  refine wpAnyH_take (i := 24) (oi := ?oil24) (v := undef) ?hil24 (by kernel_rfl) (by kernel_rfl) (by kernel_rfl) ?hQl24 ?hyl24 HS ?restl24
                  case hil24 => simp only [List.getElem?_toArray, List.getElem?_cons_succ, List.getElem?_cons_zero]; exact rfl
                  case hQl24 => exact fun _ _ _ h => h
                  case hyl24 =>
                    refine Or.inr ⟨by rfl, rfl⟩
                  try simp only [Act.put, List.setIfInBounds_toArray, List.set_cons_zero, List.set_cons_succ]
                  refine wpAnyH_take (i := 25) (oi := ?oil25) (v := undef) ?hil25 (by kernel_rfl) (by kernel_rfl) (by kernel_rfl) ?hQl25 ?hyl25 HS ?restl25
                  case hil25 => simp only [List.getElem?_toArray, List.getElem?_cons_succ, List.getElem?_cons_zero]; exact rfl
                  case hQl25 => exact fun _ _ _ h => h
                  case hyl25 =>
                    refine Or.inr ⟨by rfl, rfl⟩
                  try simp only [Act.put, List.setIfInBounds_toArray, List.set_cons_zero, List.set_cons_succ]
                  refine wpAnyH_take (i := 26) (oi := ?oil26) (v := undef) ?hil26 (by kernel_rfl) (by kernel_rfl) (by kernel_rfl) ?hQl26 ?hyl26 HS ?restl26
                  case hil26 => simp only [List.getElem?_toArray, List.getElem?_cons_succ, List.getElem?_cons_zero]; exact rfl
                  case hQl26 => exact fun _ _ _ h => h
                  case hyl26 =>
                    refine Or.inr ⟨by rfl, rfl⟩
                  try simp only [Act.put, List.setIfInBounds_toArray, List.set_cons_zero, List.set_cons_succ]
                  refine wpAnyH_take (i := 27) (oi := ?oil27) (v := undef) ?hil27 (by kernel_rfl) (by kernel_rfl) (by kernel_rfl) ?hQl27 ?hyl27 HS ?restl27
                  case hil27 => simp only [List.getElem?_toArray, List.getElem?_cons_succ, List.getElem?_cons_zero]; exact rfl
                  case hQl27 => exact fun _ _ _ h => h
                  case hyl27 =>
                    refine Or.inr ⟨by rfl, rfl⟩
                  try simp only [Act.put, List.setIfInBounds_toArray, List.set_cons_zero, List.set_cons_succ]
                  refine wpAnyH_take (i := 28) (oi := ?oil28) (v := ?vl28) ?hil28 (by kernel_rfl) (by kernel_rfl) (by kernel_rfl) ?hQl28 ?hyl28 HS ?restl28
                  case hil28 => simp only [List.getElem?_toArray, List.getElem?_cons_succ, List.getElem?_cons_zero]; exact rfl
                  case hQl28 => exact fun _ _ _ h => h
                  case hyl28 =>
                    refine Or.inl ⟨by rfl, ?_⟩
                    intro wS hSw
                    go_simp
                    try with_reducible rfl
                  try simp only [Act.put, List.setIfInBounds_toArray, List.set_cons_zero, List.set_cons_succ]
                  refine wpAnyH_take (i := 29) (oi := ?oil29) (v := ?vl29) ?hil29 (by kernel_rfl) (by kernel_rfl) (by kernel_rfl) ?hQl29 ?hyl29 HS ?restl29
                  case hil29 => simp only [List.getElem?_toArray, List.getElem?_cons_succ, List.getElem?_cons_zero]; exact rfl
                  case hQl29 => exact fun _ _ _ h => h
                  case hyl29 =>
                    refine Or.inl ⟨by rfl, ?_⟩
                    intro wS hSw
                    go_simp
                    try with_reducible rfl
                  try simp only [Act.put, List.setIfInBounds_toArray, List.set_cons_zero, List.set_cons_succ]
                  refine wpAnyH_take (i := 30) (oi := ?oil30) (v := ?vl30) ?hil30 (by kernel_rfl) (by kernel_rfl) (by kernel_rfl) ?hQl30 ?hyl30 HS ?restl30
                  case hil30 => simp only [List.getElem?_toArray, List.getElem?_cons_succ, List.getElem?_cons_zero]; exact rfl
                  case hQl30 => exact fun _ _ _ h => h
                  case hyl30 =>
                    refine Or.inl ⟨by rfl, ?_⟩
                    intro wS hSw
                    go_simp
                    try with_reducible rfl
                  try simp only [Act.put, List.setIfInBounds_toArray, List.set_cons_zero, List.set_cons_succ]
                  refine wpAnyH_done (by kernel_rfl) ?_ _
                  clear HS
                  go_wp2
                  go_roundg (n - (j + 1))
                  case measure => have := hgk.out; have := HLT.out; omega
                  case rel => exact ⟨j + 1, s', congrArg (Value.int .i64) (by first | exact wj | omega | rfl), hid rfl, hid (by have := HLT.out; omega), hid (by have := HJ.out; omega), hn7, hid (HT9.out.less (fun x hx => hx.elim))⟩
                · as_aux_lemma =>
                  go_wp2_with fail
                  refine wp_region_held_drew (S := fun wx => wx = wr.drew) (by kernel_rfl) rfl (fun HS => ?_)
                  generalize wr.drew = w9 at *
                  refine wpAnyH_take (i := 0) (oi := ?oih0) (v := ?vh0) ?hih0 (by kernel_rfl) (by kernel_rfl) (by kernel_rfl) ?hQh0 ?hyh0 HS ?resth0
                  case hih0 => simp only [List.getElem?_toArray, List.getElem?_cons_zero]; exact rfl
                  case hQh0 => exact fun _ _ _ h => h
                  case hyh0 =>
                    refine Or.inl ⟨by rfl, ?_⟩
                    intro wS hSw
                    go_simp
                    try with_reducible rfl
                  try simp only [Act.put, List.setIfInBounds_toArray, List.set_cons_zero, List.set_cons_succ]
                  refine wpAnyH_take (i := 2) (oi := ?oih2) (v := ?vh2) ?hih2 (by kernel_rfl) (by kernel_rfl) (by kernel_rfl) ?hQh2 ?hyh2 HS ?resth2
                  case hih2 => simp only [List.getElem?_toArray, List.getElem?_cons_succ, List.getElem?_cons_zero]; exact rfl
                  case hQh2 => exact fun _ _ _ h => h
                  case hyh2 =>
                    refine Or.inl ⟨by rfl, ?_⟩
                    intro wS hSw
                    go_simp
                    try with_reducible rfl
                  try simp only [Act.put, List.setIfInBounds_toArray, List.set_cons_zero, List.set_cons_succ]
                  refine wpAnyH_take (i := 3) (oi := ?oih3) (v := ?vh3) ?hih3 (by kernel_rfl) (by kernel_rfl) (by kernel_rfl) ?hQh3 ?hyh3 HS ?resth3
                  case hih3 => simp only [List.getElem?_toArray, List.getElem?_cons_succ, List.getElem?_cons_zero]; exact rfl
                  case hQh3 => exact fun _ _ _ h => h
                  case hyh3 =>
                    refine Or.inl ⟨by rfl, ?_⟩
                    intro wS hSw
                    subst hSw
                    go_simp
                    try with_reducible rfl
                  try simp only [Act.put, List.setIfInBounds_toArray, List.set_cons_zero, List.set_cons_succ]
                  refine wpAnyH_take (i := 4) (oi := ?oih4) (v := ?vh4) ?hih4 (by kernel_rfl) (by kernel_rfl) (by kernel_rfl) ?hQh4 ?hyh4 HS ?resth4
                  case hih4 => simp only [List.getElem?_toArray, List.getElem?_cons_succ, List.getElem?_cons_zero]; exact rfl
                  case hQh4 => exact fun _ _ _ h => h
                  case hyh4 =>
                    refine Or.inl ⟨by rfl, ?_⟩
                    intro wS hSw
                    go_simp
                    try with_reducible rfl
                  try simp only [Act.put, List.setIfInBounds_toArray, List.set_cons_zero, List.set_cons_succ]
                  refine wpAnyH_take (i := 5) (oi := ?oih5) (v := ?vh5) ?hih5 (by kernel_rfl) (by kernel_rfl) (by kernel_rfl) ?hQh5 ?hyh5 HS ?resth5
                  case hih5 => simp only [List.getElem?_toArray, List.getElem?_cons_succ, List.getElem?_cons_zero]; exact rfl
                  case hQh5 => exact fun _ _ _ h => h
                  case hyh5 =>
                    refine Or.inl ⟨by rfl, ?_⟩
                    intro wS hSw
                    subst hSw
                    go_simp
                    try with_reducible rfl
                  try simp only [Act.put, List.setIfInBounds_toArray, List.set_cons_zero, List.set_cons_succ]
                  refine wpAnyH_take (i := 6) (oi := ?oih6) (v := ?vh6) ?hih6 (by kernel_rfl) (by kernel_rfl) (by kernel_rfl) ?hQh6 ?hyh6 HS ?resth6
                  case hih6 => simp only [List.getElem?_toArray, List.getElem?_cons_succ, List.getElem?_cons_zero]; exact rfl
                  case hQh6 => exact fun _ _ _ h => h
                  case hyh6 =>
                    refine Or.inl ⟨by rfl, ?_⟩
                    intro wS hSw
                    go_simp
                    try with_reducible rfl
                  try simp only [Act.put, List.setIfInBounds_toArray, List.set_cons_zero, List.set_cons_succ]
                  refine wpAnyH_ready (rs := [1]) (by kernel_rfl) (by simp) ?_
                  refine AllReadyH.cons (o := ?oh1) ?hoh1 (fun K hK => ?steph1) AllReadyH.nil
                  case hoh1 => simp only [List.getElem?_toArray, List.getElem?_cons_succ, List.getElem?_cons_zero]; exact rfl
                  go_simp
                  refine hcf.mono ?_
                  rintro e wa ⟨rfl, rfl⟩
                  refine hK.out _ _ HS (fun HS => ?_)
                  clear hK K
                  try simp only [Act.put, List.setIfInBounds_toArray, List.set_cons_zero, List.set_cons_succ]
                  refine wpAnyH_take (i := 7) (oi := ?oih7) (v := ?vh7) ?hih7 (by kernel_rfl) (by kernel_rfl) (by kernel_rfl) ?hQh7 ?hyh7 HS ?resth7
                  case hih7 => simp only [List.getElem?_toArray, List.getElem?_cons_succ, List.getElem?_cons_zero]; exact rfl
                  case hQh7 => exact fun _ _ _ h => h
                  case hyh7 =>
                    refine Or.inl ⟨by rfl, ?_⟩
                    intro wS hSw
                    go_simp
                    try with_reducible rfl
                  try simp only [Act.put, List.setIfInBounds_toArray, List.set_cons_zero, List.set_cons_succ]
                  refine wpAnyH_take (i := 8) (oi := ?oih8) (v := ?vh8) ?hih8 (by kernel_rfl) (by kernel_rfl) (by kernel_rfl) ?hQh8 ?hyh8 HS ?resth8
                  case hih8 => simp only [List.getElem?_toArray, List.getElem?_cons_succ, List.getElem?_cons_zero]; exact rfl
                  case hQh8 => exact fun _ _ _ h => h
                  case hyh8 =>
                    refine Or.inl ⟨by rfl, ?_⟩
                    intro wS hSw
                    go_simp
                    try with_reducible rfl
                  try simp only [Act.put, List.setIfInBounds_toArray, List.set_cons_zero, List.set_cons_succ]
                  refine wpAnyH_take (i := 9) (oi := ?oih9) (v := ?vh9) ?hih9 (by kernel_rfl) (by kernel_rfl) (by kernel_rfl) ?hQh9 ?hyh9 HS ?resth9
                  case hih9 => simp only [List.getElem?_toArray, List.getElem?_cons_succ, List.getElem?_cons_zero]; exact rfl
                  case hQh9 => exact fun _ _ _ h => h
                  case hyh9 =>
                    refine Or.inl ⟨by rfl, ?_⟩
                    intro wS hSw
                    go_simp
                    try with_reducible rfl
                  try simp only [Act.put, List.setIfInBounds_toArray, List.set_cons_zero, List.set_cons_succ]
                  refine wpAnyH_take (i := 10) (oi := ?oih10) (v := ?vh10) ?hih10 (by kernel_rfl) (by kernel_rfl) (by kernel_rfl) ?hQh10 ?hyh10 HS ?resth10
                  case hih10 => simp only [List.getElem?_toArray, List.getElem?_cons_succ, List.getElem?_cons_zero]; exact rfl
                  case hQh10 => exact fun _ _ _ h => h
                  case hyh10 =>
                    refine Or.inl ⟨by rfl, ?_⟩
                    intro wS hSw
                    go_simp
                    try with_reducible rfl
                  try simp only [Act.put, List.setIfInBounds_toArray, List.set_cons_zero, List.set_cons_succ]
                  refine wpAnyH_take (i := 11) (oi := ?oih11) (v := ?vh11) ?hih11 (by kernel_rfl) (by kernel_rfl) (by kernel_rfl) ?hQh11 ?hyh11 HS ?resth11
                  case hih11 => simp only [List.getElem?_toArray, List.getElem?_cons_succ, List.getElem?_cons_zero]; exact rfl
                  case hQh11 => exact fun _ _ _ h => h
                  case hyh11 =>
                    refine Or.inl ⟨by rfl, ?_⟩
                    intro wS hSw
                    subst hSw
                    go_simp
                    try with_reducible rfl
                  try simp only [Act.put, List.setIfInBounds_toArray, List.set_cons_zero, List.set_cons_succ]
                  refine wpAnyH_take (i := 13) (oi := ?oih13) (v := ?vh13) ?hih13 (by kernel_rfl) (by kernel_rfl) (by kernel_rfl) ?hQh13 ?hyh13 HS ?resth13
                  case hih13 => simp only [List.getElem?_toArray, List.getElem?_cons_succ, List.getElem?_cons_zero]; exact rfl
                  case hQh13 => exact fun _ _ _ h => h
                  case hyh13 =>
                    refine Or.inl ⟨by rfl, ?_⟩
                    intro wS hSw
                    go_simp
                    try with_reducible rfl
                  try simp only [Act.put, List.setIfInBounds_toArray, List.set_cons_zero, List.set_cons_succ]
                  refine wpAnyH_take (i := 14) (oi := ?oih14) (v := ?vh14) ?hih14 (by kernel_rfl) (by kernel_rfl) (by kernel_rfl) ?hQh14 ?hyh14 HS ?resth14
                  case hih14 => simp only [List.getElem?_toArray, List.getElem?_cons_succ, List.getElem?_cons_zero]; exact rfl
                  case hQh14 => exact fun _ _ _ h => h
                  case hyh14 =>
                    refine Or.inl ⟨by rfl, ?_⟩
                    intro wS hSw
                    subst hSw
                    go_simp
                    try with_reducible rfl
                  try simp only [Act.put, List.setIfInBounds_toArray, List.set_cons_zero, List.set_cons_succ]
                  refine wpAnyH_take (i := 15) (oi := ?oih15) (v := ?vh15) ?hih15 (by kernel_rfl) (by kernel_rfl) (by kernel_rfl) ?hQh15 ?hyh15 HS ?resth15
                  case hih15 => simp only [List.getElem?_toArray, List.getElem?_cons_succ, List.getElem?_cons_zero]; exact rfl
                  case hQh15 => exact fun _ _ _ h => h
                  case hyh15 =>
                    refine Or.inl ⟨by rfl, ?_⟩
                    intro wS hSw
                    go_simp
                    try with_reducible rfl
                  try simp only [Act.put, List.setIfInBounds_toArray, List.set_cons_zero, List.set_cons_succ]
                  refine wpAnyH_ready (rs := [12]) (by kernel_rfl) (by simp) ?_
                  refine AllReadyH.cons (o := ?oh12) ?hoh12 (fun K hK => ?steph12) AllReadyH.nil
                  case hoh12 => simp only [List.getElem?_toArray, List.getElem?_cons_succ, List.getElem?_cons_zero]; exact rfl
                  go_simp
                  refine hct.mono ?_
                  rintro e wa ⟨rfl, rfl⟩
                  refine hK.out _ _ HS (fun HS => ?_)
                  clear hK K
                  try simp only [Act.put, List.setIfInBounds_toArray, List.set_cons_zero, List.set_cons_succ]
                  refine wpAnyH_take (i := 16) (oi := ?oih16) (v := ?vh16) ?hih16 (by kernel_rfl) (by kernel_rfl) (by kernel_rfl) ?hQh16 ?hyh16 HS ?resth16
                  case hih16 => simp only [List.getElem?_toArray, List.getElem?_cons_succ, List.getElem?_cons_zero]; exact rfl
                  case hQh16 => exact fun _ _ _ h => h
                  case hyh16 =>
                    refine Or.inl ⟨by rfl, ?_⟩
                    intro wS hSw
                    go_simp
                    try with_reducible rfl
                  try simp only [Act.put, List.setIfInBounds_toArray, List.set_cons_zero, List.set_cons_succ]
                  refine wpAnyH_take (i := 17) (oi := ?oih17) (v := ?vh17) ?hih17 (by kernel_rfl) (by kernel_rfl) (by kernel_rfl) ?hQh17 ?hyh17 HS ?resth17
                  case hih17 => simp only [List.getElem?_toArray, List.getElem?_cons_succ, List.getElem?_cons_zero]; exact rfl
                  case hQh17 => exact fun _ _ _ h => h
                  case hyh17 =>
                    refine Or.inl ⟨by rfl, ?_⟩
                    intro wS hSw
                    go_simp
                    try with_reducible rfl
                  try simp only [Act.put, List.setIfInBounds_toArray, List.set_cons_zero, List.set_cons_succ]
                  refine wpAnyH_take (i := 18) (oi := ?oih18) (v := ?vh18) ?hih18 (by kernel_rfl) (by kernel_rfl) (by kernel_rfl) ?hQh18 ?hyh18 HS ?resth18
                  case hih18 => simp only [List.getElem?_toArray, List.getElem?_cons_succ, List.getElem?_cons_zero]; exact rfl
                  case hQh18 => exact fun _ _ _ h => h
                  case hyh18 =>
                    refine Or.inl ⟨by rfl, ?_⟩
                    intro wS hSw
                    subst hSw
                    go_simp
                    try with_reducible rfl
                  try simp only [Act.put, List.setIfInBounds_toArray, List.set_cons_zero, List.set_cons_succ]
                  refine wpAnyH_take (i := 19) (oi := ?oih19) (v := ?vh19) ?hih19 (by kernel_rfl) (by kernel_rfl) (by kernel_rfl) ?hQh19 ?hyh19 HS ?resth19
                  case hih19 => simp only [List.getElem?_toArray, List.getElem?_cons_succ, List.getElem?_cons_zero]; exact rfl
                  case hQh19 => exact fun _ _ _ h => h
                  case hyh19 =>
                    refine Or.inl ⟨by rfl, ?_⟩
                    intro wS hSw
                    go_simp
                    try with_reducible rfl
                  try simp only [Act.put, List.setIfInBounds_toArray, List.set_cons_zero, List.set_cons_succ]
                  refine wpAnyH_take (i := 20) (oi := ?oih20) (v := ?vh20) ?hih20 (by kernel_rfl) (by kernel_rfl) (by kernel_rfl) ?hQh20 ?hyh20 HS ?resth20
                  case hih20 => simp only [List.getElem?_toArray, List.getElem?_cons_succ, List.getElem?_cons_zero]; exact rfl
                  case hQh20 => exact fun _ _ _ h => h
                  case hyh20 =>
                    refine Or.inl ⟨by rfl, ?_⟩
                    intro wS hSw
                    go_simp
                    try with_reducible rfl
                  try simp only [Act.put, List.setIfInBounds_toArray, List.set_cons_zero, List.set_cons_succ]
                  refine wpAnyH_take (i := 21) (oi := ?oih21) (v := ?vh21) ?hih21 (by kernel_rfl) (by kernel_rfl) (by kernel_rfl) ?hQh21 ?hyh21 HS ?resth21
                  case hih21 => simp only [List.getElem?_toArray, List.getElem?_cons_succ, List.getElem?_cons_zero]; exact rfl
                  case hQh21 => exact fun _ _ _ h => h
                  case hyh21 =>
                    refine Or.inl ⟨by rfl, ?_⟩
                    intro wS hSw
                    go_simp
                    try with_reducible rfl
                  try simp only [Act.put, List.setIfInBounds_toArray, List.set_cons_zero, List.set_cons_succ]
                  refine wpAnyH_take (i := 22) (oi := ?oih22) (v := ?vh22) ?hih22 (by kernel_rfl) (by kernel_rfl) (by kernel_rfl) ?hQh22 ?hyh22 HS ?resth22
                  case hih22 => simp only [List.getElem?_toArray, List.getElem?_cons_succ, List.getElem?_cons_zero]; exact rfl
                  case hQh22 => exact fun _ _ _ h => h
                  case hyh22 =>
                    refine Or.inl ⟨by rfl, ?_⟩
                    intro wS hSw
                    go_simp
                    try with_reducible rfl
                  try simp only [Act.put, List.setIfInBounds_toArray, List.set_cons_zero, List.set_cons_succ]
                  refine wpAnyH_take (i := 23) (oi := ?oih23) (v := undef) ?hih23 (by kernel_rfl) (by kernel_rfl) (by kernel_rfl) ?hQh23 ?hyh23 HS ?resth23
                  case hih23 => simp only [List.getElem?_toArray, List.getElem?_cons_succ, List.getElem?_cons_zero]; exact rfl
                  case hQh23 => exact fun _ _ _ h => h
                  case hyh23 =>
                    refine Or.inr ⟨by rfl, rfl⟩
                  try simp only [Act.put, List.setIfInBounds_toArray, List.set_cons_zero, List.set_cons_succ]
                  refine wpAnyH_take (i := 24) (oi := ?oih24) (v := undef) ?hih24 (by kernel_rfl) (by kernel_rfl) (by kernel_rfl) ?hQh24 ?hyh24 HS ?resth24
                  case hih24 => simp only [List.getElem?_toArray, List.getElem?_cons_succ, List.getElem?_cons_zero]; exact rfl
                  case hQh24 => exact fun _ _ _ h => h
                  case hyh24 =>
                    refine Or.inr ⟨by rfl, rfl⟩
                  try simp only [Act.put, List.setIfInBounds_toArray, List.set_cons_zero, List.set_cons_succ]
                  refine wpAnyH_take (i := 25) (oi := ?oih25) (v := undef) ?hih25 (by kernel_rfl) (by kernel_rfl) (by kernel_rfl) ?hQh25 ?hyh25 HS ?resth25
                  case hih25 => simp only [List.getElem?_toArray, List.getElem?_cons_succ, List.getElem?_cons_zero]; exact rfl
                  case hQh25 => exact fun _ _ _ h => h
                  case hyh25 =>
                    refine Or.inr ⟨by rfl, rfl⟩
                  try simp only [Act.put, List.setIfInBounds_toArray, List.set_cons_zero, List.set_cons_succ]
                  refine wpAnyH_take (i := 26) (oi := ?oih26) (v := undef) ?hih26 (by kernel_rfl) (by kernel_rfl) (by kernel_rfl) ?hQh26 ?hyh26 HS ?resth26
                  case hih26 => simp only [List.getElem?_toArray, List.getElem?_cons_succ, List.getElem?_cons_zero]; exact rfl
                  case hQh26 => exact fun _ _ _ h => h
                  case hyh26 =>
                    refine Or.inr ⟨by rfl, rfl⟩
                  try simp only [Act.put, List.setIfInBounds_toArray, List.set_cons_zero, List.set_cons_succ]
                  refine wpAnyH_take (i := 27) (oi := ?oih27) (v := undef) ?hih27 (by kernel_rfl) (by kernel_rfl) (by kernel_rfl) ?hQh27 ?hyh27 HS ?resth27
                  case hih27 => simp only [List.getElem?_toArray, List.getElem?_cons_succ, List.getElem?_cons_zero]; exact rfl
                  case hQh27 => exact fun _ _ _ h => h
                  case hyh27 =>
                    refine Or.inr ⟨by rfl, rfl⟩
                  try simp only [Act.put, List.setIfInBounds_toArray, List.set_cons_zero, List.set_cons_succ]
                  refine wpAnyH_take (i := 28) (oi := ?oih28) (v := ?vh28) ?hih28 (by kernel_rfl) (by kernel_rfl) (by kernel_rfl) ?hQh28 ?hyh28 HS ?resth28
                  case hih28 => simp only [List.getElem?_toArray, List.getElem?_cons_succ, List.getElem?_cons_zero]; exact rfl
                  case hQh28 => exact fun _ _ _ h => h
                  case hyh28 =>
                    refine Or.inl ⟨by rfl, ?_⟩
                    intro wS hSw
                    go_simp
                    try with_reducible rfl
                  try simp only [Act.put, List.setIfInBounds_toArray, List.set_cons_zero, List.set_cons_succ]
                  refine wpAnyH_take (i := 29) (oi := ?oih29) (v := ?vh29) ?hih29 (by kernel_rfl) (by kernel_rfl) (by kernel_rfl) ?hQh29 ?hyh29 HS ?resth29
                  case hih29 => simp only [List.getElem?_toArray, List.getElem?_cons_succ, List.getElem?_cons_zero]; exact rfl
                  case hQh29 => exact fun _ _ _ h => h
                  case hyh29 =>
                    refine Or.inl ⟨by rfl, ?_⟩
                    intro wS hSw
                    go_simp
                    try with_reducible rfl
                  try simp only [Act.put, List.setIfInBounds_toArray, List.set_cons_zero, List.set_cons_succ]
                  refine wpAnyH_take (i := 30) (oi := ?oih30) (v := ?vh30) ?hih30 (by kernel_rfl) (by kernel_rfl) (by kernel_rfl) ?hQh30 ?hyh30 HS ?resth30
                  case hih30 => simp only [List.getElem?_toArray, List.getElem?_cons_succ, List.getElem?_cons_zero]; exact rfl
                  case hQh30 => exact fun _ _ _ h => h
                  case hyh30 =>
                    refine Or.inl ⟨by rfl, ?_⟩
                    intro wS hSw
                    go_simp
                    try with_reducible rfl
                  try simp only [Act.put, List.setIfInBounds_toArray, List.set_cons_zero, List.set_cons_succ]
                  refine wpAnyH_done (by kernel_rfl) ?_ _
                  clear HS
                  go_wp2
                  go_roundg (n - (j + 1))
                  case measure => have := hgk.out; have := HLT.out; omega
                  case rel => exact ⟨j + 1, s', congrArg (Value.int .i64) (by first | exact wj | omega | rfl), hid rfl, hid (by have := HLT.out; omega), hid (by have := HJ.out; omega), hn7, hid (HT9.out.less (fun x hx => hx.elim))⟩
    · have j3 : decide ((j : Int) < (n : Int)) = false := by simp; omega
      have j4 : decide (j < n) = false := by simp; omega
      clear hge
      as_aux_lemma =>
      go_wp2
      go_ret
      exact ⟨rfl, hT.out.below⟩

theorem walkSpacePlays (z0 z1 : Int) (a2 : Option Addr) (n2 c2 : Nat) (o2 : Nat → Int × Int) (w : World) (_ : (Lit.int IntKind.i64 z0).wf = true) (_ : (Lit.int IntKind.i64 z1).wf = true) (h2 : OpsP w w.heap.size a2 n2 o2 ∧ n2 ≤ 9223372036854775807) :
    Calls Try.prog 3 #[.int .i64 z0, .int .i64 z1, .slice a2 n2 c2] w fun e w' => e = .returned (.bool true) ∧ Below w.heap.size w w' := splays_core z0 z1 a2 n2 c2 o2 w h2.1 h2.2
end Go.Proofs.Ytfkaobpfdpfahaa
