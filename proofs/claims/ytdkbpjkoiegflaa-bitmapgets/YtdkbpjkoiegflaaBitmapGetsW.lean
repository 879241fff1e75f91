/- The walk of BitmapGets: it answers true, whatever the input. -/
import Derived.Test.YtdkbpjkoiegflaaBmF
import Derived.Test.YtdkbpjkoiegflaaFrameB
namespace Go.Proofs.Ytdkbpjkoiegflaa
open Go.RowKit Go.ChangeShapes Go.WideShapes Go.ChangeAt

theorem bgX_le {b : List UInt8} {N : Int} (h : b.length ≤ 300) : (bgX b N).length ≤ 100000 := by
  unfold bgX
  split
  · rename_i e
    obtain ⟨_, h1, _⟩ := of_decide_eq_true e
    rw [bgL_len]
    unfold nby at h1
    omega
  · exact Nat.zero_le _
set_option maxRecDepth 100000 in
set_option maxHeartbeats 16000000 in
theorem walkBitmapGets (A : Option Addr) (n c : Nat) (z0 : List Int) (N : Int) (w : World) (w0 : IsRow .u8 w A n c z0) (w1 : (Lit.int .i64 N).wf = true) :
    Calls Try.prog 4 #[.slice A n c, .int .i64 N] w fun e w' => e = .returned (.bool true) ∧ Below w.heap.size w w' := by
  obtain ⟨b, hb, hc, _⟩ := argB w0
  have hb' : b.length = n := hb.len
  subst hb'
  have HL : Hid (Bts w 0 w.heap.size A b.length b) := hid hb
  have HNN := hid (wf_i64 w1)
  clear w0 w1 hb hc
  go_enter Try.func4, Try.ntmps4
  go_wp2_with fail
  refine (bfirst_c w).mono ?_
  rintro e w1 ⟨rfl, hb1⟩
  have HB1 := hid hb1
  clear hb1
  by_cases hbig : 300 < b.length
  · have e1 : decide ((300 : Int) < (b.length : Int)) = true := by simp; omega
    have e2 : decide (300 < b.length) = true := decide_eq_true hbig
    clear hbig
    go_wp2
    go_ret
    exact ⟨rfl, HB1.out⟩
  have e1 : decide ((300 : Int) < (b.length : Int)) = false := by simp; omega
  have e2 : decide (300 < b.length) = false := decide_eq_false hbig
  have HN : Hid (b.length ≤ 300) := hid (by omega)
  clear hbig
  go_wp2_with fail
  clear e1 e2
  refine (bget_c (w := w1) (b := b) ((HL.out.below HB1.out (Nat.le_refl _)).wide (Nat.le_refl _) HB1.out.size) (by have := HN.out; omega) N HNN.out).mono ?_
  rintro e w2 ⟨A2, c2, rfl, ho2, hb2⟩
  have HB2 : Hid (Below w.heap.size w w2) := hid (HB1.out.trans (hb2.mono HB1.out.size))
  have HO2 := hid ho2
  clear hb2 ho2
  go_wp2_with fail
  refine (brget_c (w := w2) (b := b) ((HL.out.below HB2.out (Nat.le_refl _)).wide (Nat.le_refl _) HB2.out.size) (by have := HN.out; omega) N HNN.out).mono ?_
  rintro e w3 ⟨A3, c3, rfl, ho3, hb3⟩
  have HB3 : Hid (Below w.heap.size w w3) := hid (HB2.out.trans (hb3.mono HB2.out.size))
  have HO3 := hid ho3
  have HP3 := hid (own_bel HO2.out hb3)
  have HXL : Hid ((bgX b N).length ≤ 100000) := hid (bgX_le (by have := HN.out; omega))
  have HBK : Hid (bgO b N = true → bmP (bgX b N) = b) := hid (fun h => by unfold bgX; rw [if_pos h]; exact bgL_back h)
  have HS3 : Hid (∀ wx, Below w3.heap.size w3 wx → (Calls Try.prog 11 #[.slice A2 (bgX b N).length c2, .slice A3 (bgX b N).length c3] wx fun e w' => e = .returned (.bool true) ∧ Below wx.heap.size wx w')) := hid (fun wx hx => by
    refine (bsame_c (w := wx) (a := bgX b N) (b := bgX b N) ((Lst.own (own_bel HP3.out hx)).wide (Nat.zero_le _) (Nat.le_refl _)) ((HO3.out.below hx (Nat.le_refl _)).wide (Nat.le_refl _) hx.size) (Nat.le_trans HXL.out (by decide)) (Nat.le_trans HXL.out (by decide))).mono ?_
    rintro e w' ⟨rfl, h⟩
    exact ⟨by simp, h⟩)
  have HXB : Hid (Lst w3 0 w3.heap.size A2 (bgX b N).length (bls (bgX b N))) := hid ((Lst.own HP3.out).wide (Nat.zero_le _) (Nat.le_refl _))
  generalize hK : bgO b N = K at *
  generalize bgX b N = X at *
  clear hK hb3 ho3 HO2 HB2 HO3 HP3
  cases K with
  | false =>
    go_wp2_with fail
    refine (HS3.out _ (Below.refl _ _)).mono ?_
    rintro e w4 ⟨rfl, hb4⟩
    have HB4 : Hid (Below w.heap.size w w4) := hid (HB3.out.trans (hb4.mono HB3.out.size))
    clear hb4
    go_wp2_with fail
    go_quiet (fail)
    go_wp2
    go_ret
    exact ⟨rfl, bdQ _ HB4.out⟩
  | true =>
    go_wp2_with fail
    refine (HS3.out _ (Below.refl _ _)).mono ?_
    rintro e w4 ⟨rfl, hb4⟩
    have HB4 : Hid (Below w.heap.size w w4) := hid (HB3.out.trans (hb4.mono HB3.out.size))
    have HX4 := hid ((HXB.out.below hb4 (Nat.le_refl _)).wide (Nat.le_refl _) hb4.size)
    clear hb4
    go_wp2_with fail
    have hdr : Below w4.heap.size w4 w4.drew := (Below.refl _ _).drew
    refine wp_region_held_drew (S := fun wx => Below w4.heap.size w4 wx) (by kernel_rfl) hdr (fun HS => ?_)
    refine wpAnyH_take (i := 0) (oi := ?oig0) (v := ?vg0) ?hig0 (by kernel_rfl) (by kernel_rfl) (by kernel_rfl) ?hQg0 ?hyg0 HS ?restg0
    case hig0 => simp only [List.getElem?_toArray, List.getElem?_cons_zero]; exact rfl
    case hQg0 => exact fun _ _ _ h => h
    case hyg0 =>
      refine Or.inl ⟨by rfl, ?_⟩
      intro wS hSw
      go_simp
      try with_reducible rfl
    try simp only [Act.put, List.setIfInBounds_toArray, List.set_cons_zero, List.set_cons_succ]
    refine wpAnyH_take (i := 1) (oi := ?oig1) (v := ?vg1) ?hig1 (by kernel_rfl) (by kernel_rfl) (by kernel_rfl) ?hQg1 ?hyg1 HS ?restg1
    case hig1 => simp only [List.getElem?_toArray, List.getElem?_cons_succ, List.getElem?_cons_zero]; exact rfl
    case hQg1 => exact fun _ _ _ h => h
    case hyg1 =>
      refine Or.inl ⟨by rfl, ?_⟩
      intro wS hSw
      go_simp
      try with_reducible rfl
    try simp only [Act.put, List.setIfInBounds_toArray, List.set_cons_zero, List.set_cons_succ]
    refine wpAnyH_take (i := 2) (oi := ?oig2) (v := ?vg2) ?hig2 (by kernel_rfl) (by kernel_rfl) (by kernel_rfl) ?hQg2 ?hyg2 HS ?restg2
    case hig2 => simp only [List.getElem?_toArray, List.getElem?_cons_succ, List.getElem?_cons_zero]; exact rfl
    case hQg2 => exact fun _ _ _ h => h
    case hyg2 =>
      refine Or.inl ⟨by rfl, ?_⟩
      intro wS hSw
      go_simp
      try with_reducible rfl
    try simp only [Act.put, List.setIfInBounds_toArray, List.set_cons_zero, List.set_cons_succ]
    refine wpAnyH_take (i := 3) (oi := ?oig3) (v := ?vg3) ?hig3 (by kernel_rfl) (by kernel_rfl) (by kernel_rfl) ?hQg3 ?hyg3 HS ?restg3
    case hig3 => simp only [List.getElem?_toArray, List.getElem?_cons_succ, List.getElem?_cons_zero]; exact rfl
    case hQg3 => exact fun _ _ _ h => h
    case hyg3 =>
      refine Or.inl ⟨by rfl, ?_⟩
      intro wS hSw
      go_simp
      try with_reducible rfl
    try simp only [Act.put, List.setIfInBounds_toArray, List.set_cons_zero, List.set_cons_succ]
    refine wpAnyH_take (i := 6) (oi := ?oig6) (v := ?vg6) ?hig6 (by kernel_rfl) (by kernel_rfl) (by kernel_rfl) ?hQg6 ?hyg6 HS ?restg6
    case hig6 => simp only [List.getElem?_toArray, List.getElem?_cons_succ, List.getElem?_cons_zero]; exact rfl
    case hQg6 => exact fun _ _ _ h => h
    case hyg6 =>
      refine Or.inl ⟨by rfl, ?_⟩
      intro wS hSw
      go_simp
      try with_reducible rfl
    try simp only [Act.put, List.setIfInBounds_toArray, List.set_cons_zero, List.set_cons_succ]
    refine wpAnyH_take (i := 7) (oi := ?oig7) (v := ?vg7) ?hig7 (by kernel_rfl) (by kernel_rfl) (by kernel_rfl) ?hQg7 ?hyg7 HS ?restg7
    case hig7 => simp only [List.getElem?_toArray, List.getElem?_cons_succ, List.getElem?_cons_zero]; exact rfl
    case hQg7 => exact fun _ _ _ h => h
    case hyg7 =>
      refine Or.inl ⟨by rfl, ?_⟩
      intro wS hSw
      have hcv := run_str (P := Try.prog) (c := c) 24 9 5 Try.underlying24 Try.underlying5 Try.underlying9 (HL.out.below (HB4.out.trans (hSw.mono HB4.out.size)) (Nat.le_refl _))
      go_simp
      try with_reducible rfl
    try simp only [Act.put, List.setIfInBounds_toArray, List.set_cons_zero, List.set_cons_succ]
    refine wpAnyH_ready (rs := [4]) (by kernel_rfl) (by simp) ?_
    refine AllReadyH.cons (o := ?og4) ?hog4 (fun K hK => ?stepg4) AllReadyH.nil
    case hog4 => simp only [List.getElem?_toArray, List.getElem?_cons_succ, List.getElem?_cons_zero]; exact rfl
    rw [if_pos (by rfl)]
    go_simp
    refine (bput_c (w := w4.drew) (l := X) ((HX4.out.below hdr (Nat.le_refl _)).wide (Nat.le_refl _) hdr.size) (by have := HXL.out; omega)).mono ?_
    rintro e w5 ⟨A5, c5, rfl, hc5, ho5, hb5⟩
    have HB5 : Hid (Below w4.heap.size w4 w5) := hid (hdr.trans (hb5.mono (Nat.le_refl _)))
    have hcv := bm_str ho5
    rw [HBK.out trivial] at hcv ⊢
    clear hb5 hc5 ho5
    refine hK.out _ _ HB5.out (fun HS => ?_)
    clear hK K
    try simp only [Act.put, List.setIfInBounds_toArray, List.set_cons_zero, List.set_cons_succ]
    refine wpAnyH_ready (rs := [5]) (by kernel_rfl) (by simp) ?_
    refine AllReadyH.cons (o := ?og5) ?hog5 (fun K hK => ?stepg5) AllReadyH.nil
    case hog5 => simp only [List.getElem?_toArray, List.getElem?_cons_succ, List.getElem?_cons_zero]; exact rfl
    rw [if_pos (by rfl)]
    go_simp
    refine hK.out _ _ HB5.out (fun HS => ?_)
    clear hK K
    try simp only [Act.put, List.setIfInBounds_toArray, List.set_cons_zero, List.set_cons_succ]
    refine wpAnyH_take (i := 8) (oi := ?oig8) (v := ?vg8) ?hig8 (by kernel_rfl) (by kernel_rfl) (by kernel_rfl) ?hQg8 ?hyg8 HS ?restg8
    case hig8 => simp only [List.getElem?_toArray, List.getElem?_cons_succ, List.getElem?_cons_zero]; exact rfl
    case hQg8 => exact fun _ _ _ h => h
    case hyg8 =>
      refine Or.inl ⟨by rfl, ?_⟩
      intro wS hSw
      go_simp
      try with_reducible rfl
    try simp only [Act.put, List.setIfInBounds_toArray, List.set_cons_zero, List.set_cons_succ]
    refine wpAnyH_take (i := 9) (oi := ?oig9) (v := ?vg9) ?hig9 (by kernel_rfl) (by kernel_rfl) (by kernel_rfl) ?hQg9 ?hyg9 HS ?restg9
    case hig9 => simp only [List.getElem?_toArray, List.getElem?_cons_succ, List.getElem?_cons_zero]; exact rfl
    case hQg9 => exact fun _ _ _ h => h
    case hyg9 =>
      refine Or.inl ⟨by rfl, ?_⟩
      intro wS hSw
      go_simp
      try with_reducible rfl
    try simp only [Act.put, List.setIfInBounds_toArray, List.set_cons_zero, List.set_cons_succ]
    refine wpAnyH_take (i := 10) (oi := ?oig10) (v := ?vg10) ?hig10 (by kernel_rfl) (by kernel_rfl) (by kernel_rfl) ?hQg10 ?hyg10 HS ?restg10
    case hig10 => simp only [List.getElem?_toArray, List.getElem?_cons_succ, List.getElem?_cons_zero]; exact rfl
    case hQg10 => exact fun _ _ _ h => h
    case hyg10 =>
      refine Or.inl ⟨by rfl, ?_⟩
      intro wS hSw
      go_simp
      try with_reducible rfl
    try simp only [Act.put, List.setIfInBounds_toArray, List.set_cons_zero, List.set_cons_succ]
    refine wpAnyH_done (by kernel_rfl) ?_ _
    have HF : Hid (Below w.heap.size w w5) := hid (HB4.out.trans (HB5.out.mono HB4.out.size))
    go_wp2
    go_ret
    exact ⟨rfl, HF.out⟩
end Go.Proofs.Ytdkbpjkoiegflaa
