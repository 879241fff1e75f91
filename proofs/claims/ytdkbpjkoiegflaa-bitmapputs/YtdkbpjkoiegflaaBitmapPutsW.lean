/- The walk of BitmapPuts: it answers true, whatever the input. -/
import Derived.Test.YtdkbpjkoiegflaaBmF
namespace Go.Proofs.Ytdkbpjkoiegflaa
open Go.RowKit

theorem bp_ctr {z : List Bool} {j : Nat} (h : j < z.length) : ctr (z.take (j + 1)) = ctr (z.take j) + z[j].toNat := by rw [take_snoc h]; exact ctr_snoc _ _
set_option maxRecDepth 100000 in
set_option maxHeartbeats 16000000 in
theorem walkBitmapPuts (A : Option Addr) (n c : Nat) (z : List Bool) (w : World) (w0 : Lst w 0 w.heap.size A n (z.map Value.bool) ∧ n ≤ c) :
    Calls Try.prog 3 #[.slice A n c] w fun e w' => e = .returned (.bool true) ∧ Below w.heap.size w w' := by
  have hz : z.length = n := by have := w0.1.1; simpa using this
  subst hz
  have HL : Hid (Lst w 0 w.heap.size A z.length (bls z)) := hid w0.1
  have HC := hid w0.2
  clear w0
  go_enter Try.func3, Try.ntmps3
  go_wp2_with fail
  refine (bfirst_c w).mono ?_
  rintro e w1 ⟨rfl, hb1⟩
  have HB1 := hid hb1
  clear hb1
  by_cases hbig : 2000 < z.length
  · have e1 : decide ((2000 : Int) < (z.length : Int)) = true := by simp; omega
    have e2 : decide (2000 < z.length) = true := decide_eq_true hbig
    clear hbig
    go_wp2
    go_ret
    exact ⟨rfl, HB1.out⟩
  have e1 : decide ((2000 : Int) < (z.length : Int)) = false := by simp; omega
  have e2 : decide (2000 < z.length) = false := decide_eq_false hbig
  have HN : Hid (z.length ≤ 2000) := hid (by omega)
  clear hbig
  go_wp2_with fail
  clear e1 e2
  refine (bput_c (w := w1) (l := z) ((HL.out.below HB1.out (Nat.le_refl _)).wide (Nat.le_refl _) HB1.out.size) (by have := HN.out; omega)).mono ?_
  rintro e w2 ⟨A2, c2, rfl, hc2, ho2, hb2⟩
  have HB2 : Hid (Below w.heap.size w w2) := hid (HB1.out.trans (hb2.mono HB1.out.size))
  have HO2 := hid ho2
  clear hb2 ho2 hc2
  go_wp2_with fail
  go_loopg [4, 18] z.length (fun kk nv iv wr => ∃ j : Nat, nv = .int .i64 ((ctr (z.take j) : Nat) : Int) ∧ iv = .int .i64 (j : Int) ∧ Hid (kk = z.length - j) ∧ Hid (j ≤ z.length) ∧ wr = w2)
  case atStart => exact ⟨0, rfl, rfl, hid rfl, hid (Nat.zero_le _), rfl⟩
  case round =>
  obtain ⟨j, rfl, rfl, hgk, hj, rfl⟩ := hrel
  rcases Nat.lt_or_ge j z.length with hlt | hge
  · have j1 : (0 : Int) ≤ (j : Int) := by omega
    have j2 : (j : Int) < (z.length : Int) := by omega
    have j3 : decide ((j : Int) < (z.length : Int)) = true := by simpa using hlt
    have j4 : decide (j < z.length) = true := decide_eq_true hlt
    have wj : wrap64 ((j : Int) + 1) = ((j + 1 : Nat) : Int) := by have := HN.out; unfold wrap64; omega
    have HJ := hid hlt
    obtain ⟨ga, oa, rfl, _, hga, hcell⟩ := lst_b (HL.out.below HB2.out (Nat.le_refl _)) hlt
    have HE : Hid (ctr (z.take (j + 1)) = ctr (z.take j) + z[j].toNat ∧ ctr (z.take j) ≤ z.length) := hid ⟨bp_ctr hlt, by have := ctr_le (z.take j); rw [List.length_take] at this; omega⟩
    generalize z[j] = x at *
    generalize ctr (z.take j) = s at *
    have ws : wrap64 ((s : Int) + 1) = ((s + 1 : Nat) : Int) := by have := HN.out; have := HE.out.2; unfold wrap64; omega
    have HW := hid ws
    clear hlt ws
    cases x with
    | true =>
      go_wp2_with fail
      go_roundg (z.length - (j + 1))
      case measure => exact meas_j hgk.out HJ.out
      case rel => exact ⟨j + 1, congrArg (Value.int .i64) (HW.out.trans (by rw [HE.out.1]; rfl)), by first | rfl | rw [wj], hid rfl, hid HJ.out, rfl⟩
    | false =>
      go_wp2_with fail
      go_roundg (z.length - (j + 1))
      case measure => exact meas_j hgk.out HJ.out
      case rel => exact ⟨j + 1, congrArg (fun n : Nat => Value.int .i64 (n : Int)) (by rw [HE.out.1]; rfl), by first | rfl | rw [wj], hid rfl, hid HJ.out, rfl⟩
  have hjn : j = z.length := by have := hj.out; omega
  subst hjn
  have j2 : ¬ (z.length : Int) < (z.length : Int) := by omega
  have HT : Hid (ctr (z.take z.length) = ctr z ∧ bmC (bmP z) = ctr z) := hid ⟨by rw [List.take_length], bmC_bmP _ _ (Nat.le_refl _)⟩
  rw [HT.out.1]
  clear hge hj hgk
  obtain ⟨hok, hbk⟩ := bmP_ok z
  have HOK := hid hok
  have HX : Hid (bgX (bmP z) (z.length : Int) = z) := hid (by unfold bgX; rw [hok, if_pos rfl]; simpa using hbk)
  have HPL : Hid ((bmP z).length ≤ 300) := hid (by rw [bmP_len]; unfold nby; have := HN.out; omega)
  clear hok hbk
  rename World => w2
  go_wp2_with fail
  refine (bget_c (w := w2) (b := bmP z) ((Bts.own HO2.out).wide (Nat.zero_le _) (Nat.le_refl _)) (by have := HPL.out; omega) (z.length : Int) (by have := HN.out; omega)).mono ?_
  rintro e w3 ⟨A3, c3, rfl, ho3, hb3⟩
  rw [HX.out] at ho3
  rw [HOK.out, HX.out]
  have HB3 : Hid (Below w.heap.size w w3) := hid (HB2.out.trans (hb3.mono HB2.out.size))
  have HO3 := hid ho3
  have HP3 := hid (own_bel HO2.out hb3)
  clear hb3 ho3 HO2 HB2
  go_wp2_with fail
  have hdr : Below w3.heap.size w3 w3.drew := (Below.refl _ _).drew
  have HS1 := hid (bm_str HP3.out)
  refine wp_region_held_drew (S := fun wx => Below w3.heap.size w3 wx) (by kernel_rfl) hdr (fun HS => ?_)
  refine wpAnyH_take (i := 0) (oi := ?oi0) (v := ?v0) ?hi0 (by kernel_rfl) (by kernel_rfl) (by kernel_rfl) ?hQ0 ?hy0 HS ?rest0
  case hi0 => simp only [List.getElem?_toArray, List.getElem?_cons_zero]; exact rfl
  case hQ0 => exact fun _ _ _ h => h
  case hy0 =>
    refine Or.inl ⟨by rfl, ?_⟩
    intro wS hSw
    go_simp
    try with_reducible rfl
  try simp only [Act.put, List.setIfInBounds_toArray, List.set_cons_zero, List.set_cons_succ]
  refine wpAnyH_take (i := 2) (oi := ?oi2) (v := ?v2) ?hi2 (by kernel_rfl) (by kernel_rfl) (by kernel_rfl) ?hQ2 ?hy2 HS ?rest2
  case hi2 => simp only [List.getElem?_toArray, List.getElem?_cons_succ, List.getElem?_cons_zero]; exact rfl
  case hQ2 => exact fun _ _ _ h => h
  case hy2 =>
    refine Or.inl ⟨by rfl, ?_⟩
    intro wS hSw
    go_simp
    try with_reducible rfl
  try simp only [Act.put, List.setIfInBounds_toArray, List.set_cons_zero, List.set_cons_succ]
  refine wpAnyH_take (i := 1) (oi := ?oi1) (v := ?v1) ?hi1 (by kernel_rfl) (by kernel_rfl) (by kernel_rfl) ?hQ1 ?hy1 HS ?rest1
  case hi1 => simp only [List.getElem?_toArray, List.getElem?_cons_succ, List.getElem?_cons_zero]; exact rfl
  case hQ1 => exact fun _ _ _ h => h
  case hy1 =>
    refine Or.inl ⟨by rfl, ?_⟩
    intro wS hSw
    have hcv := bm_str (own_bel HP3.out hSw)
    go_simp
    try with_reducible rfl
  try simp only [Act.put, List.setIfInBounds_toArray, List.set_cons_zero, List.set_cons_succ]
  refine wpAnyH_ready (rs := [3]) (by kernel_rfl) (by simp) ?_
  refine AllReadyH.cons (o := ?o3) ?ho3 (fun K hK => ?step3) AllReadyH.nil
  case ho3 => simp only [List.getElem?_toArray, List.getElem?_cons_succ, List.getElem?_cons_zero]; exact rfl
  go_simp
  refine (brput_c (w := w3.drew) (l := z) ((HL.out.below HB3.out (Nat.le_refl _)).wide (Nat.le_refl _) HB3.out.size) HC.out (by have := HN.out; omega)).mono ?_
  rintro e w4 ⟨A4, c4, rfl, hc4, ho4, hb4⟩
  have HB4 : Hid (Below w3.heap.size w3 w4) := hid (hdr.trans (hb4.mono (Nat.le_refl _)))
  have HO4 := hid ho4
  have hcv := bm_str ho4
  clear hb4 hc4 ho4
  refine hK.out _ _ HB4.out (fun HS => ?_)
  clear hK K
  try simp only [Act.put, List.setIfInBounds_toArray, List.set_cons_zero, List.set_cons_succ]
  refine wpAnyH_ready (rs := [4]) (by kernel_rfl) (by simp) ?_
  refine AllReadyH.cons (o := ?o4) ?ho4 (fun K hK => ?step4) AllReadyH.nil
  case ho4 => simp only [List.getElem?_toArray, List.getElem?_cons_succ, List.getElem?_cons_zero]; exact rfl
  go_simp
  refine hK.out _ _ HB4.out (fun HS => ?_)
  clear hK K
  try simp only [Act.put, List.setIfInBounds_toArray, List.set_cons_zero, List.set_cons_succ]
  refine wpAnyH_take (i := 5) (oi := ?oi5) (v := ?v5) ?hi5 (by kernel_rfl) (by kernel_rfl) (by kernel_rfl) ?hQ5 ?hy5 HS ?rest5
  case hi5 => simp only [List.getElem?_toArray, List.getElem?_cons_succ, List.getElem?_cons_zero]; exact rfl
  case hQ5 => exact fun _ _ _ h => h
  case hy5 =>
    refine Or.inl ⟨by rfl, ?_⟩
    intro wS hSw
    go_simp
    try with_reducible rfl
  try simp only [Act.put, List.setIfInBounds_toArray, List.set_cons_zero, List.set_cons_succ]
  refine wpAnyH_take (i := 6) (oi := ?oi6) (v := ?v6) ?hi6 (by kernel_rfl) (by kernel_rfl) (by kernel_rfl) ?hQ6 ?hy6 HS ?rest6
  case hi6 => simp only [List.getElem?_toArray, List.getElem?_cons_succ, List.getElem?_cons_zero]; exact rfl
  case hQ6 => exact fun _ _ _ h => h
  case hy6 =>
    refine Or.inl ⟨by rfl, ?_⟩
    intro wS hSw
    go_simp
    try with_reducible rfl
  try simp only [Act.put, List.setIfInBounds_toArray, List.set_cons_zero, List.set_cons_succ]
  refine wpAnyH_take (i := 7) (oi := ?oi7) (v := ?v7) ?hi7 (by kernel_rfl) (by kernel_rfl) (by kernel_rfl) ?hQ7 ?hy7 HS ?rest7
  case hi7 => simp only [List.getElem?_toArray, List.getElem?_cons_succ, List.getElem?_cons_zero]; exact rfl
  case hQ7 => exact fun _ _ _ h => h
  case hy7 =>
    refine Or.inl ⟨by rfl, ?_⟩
    intro wS hSw
    go_simp
    try with_reducible rfl
  try simp only [Act.put, List.setIfInBounds_toArray, List.set_cons_zero, List.set_cons_succ]
  refine wpAnyH_take (i := 9) (oi := ?oi9) (v := ?v9) ?hi9 (by kernel_rfl) (by kernel_rfl) (by kernel_rfl) ?hQ9 ?hy9 HS ?rest9
  case hi9 => simp only [List.getElem?_toArray, List.getElem?_cons_succ, List.getElem?_cons_zero]; exact rfl
  case hQ9 => exact fun _ _ _ h => h
  case hy9 =>
    refine Or.inl ⟨by rfl, ?_⟩
    intro wS hSw
    go_simp
    try with_reducible rfl
  try simp only [Act.put, List.setIfInBounds_toArray, List.set_cons_zero, List.set_cons_succ]
  refine wpAnyH_ready (rs := [8]) (by kernel_rfl) (by simp) ?_
  refine AllReadyH.cons (o := ?o8) ?ho8 (fun K hK => ?step8) AllReadyH.nil
  case ho8 => simp only [List.getElem?_toArray, List.getElem?_cons_succ, List.getElem?_cons_zero]; exact rfl
  rw [if_pos (by rfl)]
  go_simp
  refine (bcount_c (w := w4) (b := bmP z) ((Bts.own (own_bel HP3.out HB4.out)).wide (Nat.zero_le _) (Nat.le_refl _)) (by have := HPL.out; omega)).mono ?_
  rintro e w5 ⟨rfl, rfl⟩
  rw [HT.out.2]
  refine hK.out _ _ HB4.out (fun HS => ?_)
  clear hK K
  try simp only [Act.put, List.setIfInBounds_toArray, List.set_cons_zero, List.set_cons_succ]
  refine wpAnyH_take (i := 10) (oi := ?oi10) (v := ?v10) ?hi10 (by kernel_rfl) (by kernel_rfl) (by kernel_rfl) ?hQ10 ?hy10 HS ?rest10
  case hi10 => simp only [List.getElem?_toArray, List.getElem?_cons_succ, List.getElem?_cons_zero]; exact rfl
  case hQ10 => exact fun _ _ _ h => h
  case hy10 =>
    refine Or.inl ⟨by rfl, ?_⟩
    intro wS hSw
    go_simp
    try with_reducible rfl
  try simp only [Act.put, List.setIfInBounds_toArray, List.set_cons_zero, List.set_cons_succ]
  refine wpAnyH_take (i := 11) (oi := ?oi11) (v := ?v11) ?hi11 (by kernel_rfl) (by kernel_rfl) (by kernel_rfl) ?hQ11 ?hy11 HS ?rest11
  case hi11 => simp only [List.getElem?_toArray, List.getElem?_cons_succ, List.getElem?_cons_zero]; exact rfl
  case hQ11 => exact fun _ _ _ h => h
  case hy11 =>
    refine Or.inl ⟨by rfl, ?_⟩
    intro wS hSw
    go_simp
    try with_reducible rfl
  try simp only [Act.put, List.setIfInBounds_toArray, List.set_cons_zero, List.set_cons_succ]
  refine wpAnyH_take (i := 12) (oi := ?oi12) (v := ?v12) ?hi12 (by kernel_rfl) (by kernel_rfl) (by kernel_rfl) ?hQ12 ?hy12 HS ?rest12
  case hi12 => simp only [List.getElem?_toArray, List.getElem?_cons_succ, List.getElem?_cons_zero]; exact rfl
  case hQ12 => exact fun _ _ _ h => h
  case hy12 =>
    refine Or.inl ⟨by rfl, ?_⟩
    intro wS hSw
    go_simp
    try with_reducible rfl
  try simp only [Act.put, List.setIfInBounds_toArray, List.set_cons_zero, List.set_cons_succ]
  refine wpAnyH_take (i := 13) (oi := ?oi13) (v := ?v13) ?hi13 (by kernel_rfl) (by kernel_rfl) (by kernel_rfl) ?hQ13 ?hy13 HS ?rest13
  case hi13 => simp only [List.getElem?_toArray, List.getElem?_cons_succ, List.getElem?_cons_zero]; exact rfl
  case hQ13 => exact fun _ _ _ h => h
  case hy13 =>
    refine Or.inl ⟨by rfl, ?_⟩
    intro wS hSw
    go_simp
    try with_reducible rfl
  try simp only [Act.put, List.setIfInBounds_toArray, List.set_cons_zero, List.set_cons_succ]
  refine wpAnyH_take (i := 14) (oi := ?oi14) (v := ?v14) ?hi14 (by kernel_rfl) (by kernel_rfl) (by kernel_rfl) ?hQ14 ?hy14 HS ?rest14
  case hi14 => simp only [List.getElem?_toArray, List.getElem?_cons_succ, List.getElem?_cons_zero]; exact rfl
  case hQ14 => exact fun _ _ _ h => h
  case hy14 =>
    refine Or.inl ⟨by rfl, ?_⟩
    intro wS hSw
    go_simp
    try with_reducible rfl
  try simp only [Act.put, List.setIfInBounds_toArray, List.set_cons_zero, List.set_cons_succ]
  refine wpAnyH_take (i := 15) (oi := ?oi15) (v := ?v15) ?hi15 (by kernel_rfl) (by kernel_rfl) (by kernel_rfl) ?hQ15 ?hy15 HS ?rest15
  case hi15 => simp only [List.getElem?_toArray, List.getElem?_cons_succ, List.getElem?_cons_zero]; exact rfl
  case hQ15 => exact fun _ _ _ h => h
  case hy15 =>
    refine Or.inl ⟨by rfl, ?_⟩
    intro wS hSw
    go_simp
    try with_reducible rfl
  try simp only [Act.put, List.setIfInBounds_toArray, List.set_cons_zero, List.set_cons_succ]
  refine wpAnyH_take (i := 16) (oi := ?oi16) (v := ?v16) ?hi16 (by kernel_rfl) (by kernel_rfl) (by kernel_rfl) ?hQ16 ?hy16 HS ?rest16
  case hi16 => simp only [List.getElem?_toArray, List.getElem?_cons_succ, List.getElem?_cons_zero]; exact rfl
  case hQ16 => exact fun _ _ _ h => h
  case hy16 =>
    refine Or.inl ⟨by rfl, ?_⟩
    intro wS hSw
    go_simp
    try with_reducible rfl
  try simp only [Act.put, List.setIfInBounds_toArray, List.set_cons_zero, List.set_cons_succ]
  refine wpAnyH_take (i := 17) (oi := ?oi17) (v := ?v17) ?hi17 (by kernel_rfl) (by kernel_rfl) (by kernel_rfl) ?hQ17 ?hy17 HS ?rest17
  case hi17 => simp only [List.getElem?_toArray, List.getElem?_cons_succ, List.getElem?_cons_zero]; exact rfl
  case hQ17 => exact fun _ _ _ h => h
  case hy17 =>
    refine Or.inl ⟨by rfl, ?_⟩
    intro wS hSw
    go_simp
    try with_reducible rfl
  try simp only [Act.put, List.setIfInBounds_toArray, List.set_cons_zero, List.set_cons_succ]
  refine wpAnyH_ready (rs := [18]) (by kernel_rfl) (by simp) ?_
  refine AllReadyH.cons (o := ?o18) ?ho18 (fun K hK => ?step18) AllReadyH.nil
  case ho18 => simp only [List.getElem?_toArray, List.getElem?_cons_succ, List.getElem?_cons_zero]; exact rfl
  rw [if_pos (by rfl)]
  go_simp
  refine (bsame_c (w := w4) (a := z) (b := z) ((Lst.own (own_bel HO3.out HB4.out)).wide (Nat.zero_le _) (Nat.le_refl _)) ((HL.out.below (HB3.out.trans (HB4.out.mono HB3.out.size)) (Nat.le_refl _)).wide (Nat.le_refl _) (HB3.out.trans (HB4.out.mono HB3.out.size)).size) (by have := HN.out; omega) (by have := HN.out; omega)).mono ?_
  rintro e w6 ⟨rfl, hb6⟩
  have HB6 : Hid (Below w3.heap.size w3 w6) := hid (HB4.out.trans (hb6.mono HB4.out.size))
  clear hb6
  refine hK.out _ _ HB6.out (fun HS => ?_)
  clear hK K
  refine wpAnyH_take (i := 19) (oi := ?oi19) (v := ?v19) ?hi19 (by kernel_rfl) (by kernel_rfl) (by kernel_rfl) ?hQ19 ?hy19 HS ?rest19
  case hi19 => simp only [List.getElem?_toArray, List.getElem?_cons_succ, List.getElem?_cons_zero]; exact rfl
  case hQ19 => exact fun _ _ _ h => h
  case hy19 =>
    refine Or.inl ⟨by rfl, ?_⟩
    intro wS hSw
    go_simp
    try with_reducible rfl
  try simp only [Act.put, List.setIfInBounds_toArray, List.set_cons_zero, List.set_cons_succ]
  refine wpAnyH_take (i := 20) (oi := ?oi20) (v := ?v20) ?hi20 (by kernel_rfl) (by kernel_rfl) (by kernel_rfl) ?hQ20 ?hy20 HS ?rest20
  case hi20 => simp only [List.getElem?_toArray, List.getElem?_cons_succ, List.getElem?_cons_zero]; exact rfl
  case hQ20 => exact fun _ _ _ h => h
  case hy20 =>
    refine Or.inl ⟨by rfl, ?_⟩
    intro wS hSw
    go_simp
    try with_reducible rfl
  try simp only [Act.put, List.setIfInBounds_toArray, List.set_cons_zero, List.set_cons_succ]
  refine wpAnyH_done (by kernel_rfl) ?_ _
  have HF : Hid (Below w.heap.size w w6) := hid (HB3.out.trans (HB6.out.mono HB3.out.size))
  go_wp2
  go_ret
  exact ⟨rfl, HF.out⟩
end Go.Proofs.Ytdkbpjkoiegflaa
