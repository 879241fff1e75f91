/- The walk of BitsPuts: it answers true, whatever the input. -/
import Derived.Test.YtejmllpffocneaaBtF
namespace Go.Proofs.Ytejmllpffocneaa
open Go.RowKit Go.ChangeShapes Go.WideShapes Go.ChangeAt

set_option maxRecDepth 100000 in
set_option maxHeartbeats 14000000 in
theorem walkBitsPuts (A : Option Addr) (n c : Nat) (z : List Int) (w : World) (w0 : IsRow .i64 w A n c z) :
    Calls Try.prog 3 #[.slice A n c] w fun e w' => e = .returned (.bool true) ∧ Below w.heap.size w w' := by
  obtain ⟨L, hL, hc, hi⟩ := argII w0
  have hz : L.length = n := by have := hL.1; rwa [ics_len] at this
  subst hz
  have HL := hid hL
  have HC := hid hc
  have HI := hid hi
  clear w0 hL hc hi
  go_enter Try.func3, Try.ntmps3
  go_wp2_with fail
  refine (btfirst_c w).mono ?_
  rintro e w1 ⟨rfl, hb1⟩
  have HB1 := hid hb1
  clear hb1
  by_cases hbig : 400 < L.length
  · have e1 : decide ((400 : Int) < (L.length : Int)) = true := decide_eq_true (by omega)
    have e2 : decide (400 < L.length) = true := decide_eq_true hbig
    clear hbig
    go_wp2
    go_ret
    exact ⟨rfl, HB1.out⟩
  have e1 : decide ((400 : Int) < (L.length : Int)) = false := decide_eq_false (by omega)
  have e2 : decide (400 < L.length) = false := decide_eq_false hbig
  have HN : Hid (L.length ≤ 400) := hid (by omega)
  clear hbig
  go_wp2_with fail
  clear e1 e2
  refine (btput_c (w := w1) ((HL.out.below HB1.out (Nat.le_refl _)).wide (Nat.le_refl _) HB1.out.size) HC.out (by have := HN.out; omega) HI.out).mono ?_
  rintro e w2 ⟨A2, c2, rfl, hc2, ho2, hb2⟩
  have HB2 : Hid (Below w.heap.size w w2) := hid (HB1.out.trans (hb2.mono HB1.out.size))
  have HO2 : Hid (Bts w2 0 w2.heap.size A2 (btP L).length (btP L)) := hid ((Bts.own ho2).wide (Nat.zero_le _) (Nat.le_refl _))
  have HPL : Hid ((btP L).length ≤ 100000) := hid (by
    have := btP_len HI.out HN.out
    omega)
  have HC2 := hid hc2
  clear hb2 ho2 hc2
  go_wp2_with fail
  refine (btget_c (w := w2) (b := btP L) HO2.out HC2.out (by have := HPL.out; omega) (L.length : Int) (by have := HN.out; omega)).mono ?_
  rintro e w3 ⟨l3, ok3, A3, c3, rfl, hg3, ho3, hc3, hb3⟩
  have HB3 : Hid (Below w.heap.size w w3) := hid (HB2.out.trans (hb3.mono HB2.out.size))
  have HP3 := hid ((HO2.out.below hb3 (Nat.le_refl _)).wide (Nat.le_refl _) hb3.size)
  have s1 := str_list (btP L)
  by_cases hl : L.length ≤ 256
  · obtain ⟨rfl, rfl⟩ := BtG.isIt (l := L) (x := true) (.inl ⟨rfl, by omega, by omega, rfl, HI.out, rfl⟩) hg3
    rename List Int => L
    have HO3 := hid ho3
    have e1 : decide ((L.length : Int) ≤ 256) = true := decide_eq_true (by omega)
    have e2 : decide (L.length ≤ 256) = true := decide_eq_true hl
    clear hg3 ho3 hc3 hb3 hl HB2 HO2
    go_wp2_with fail
    have hdr : Below w3.heap.size w3 w3.drew := (Below.refl _ _).drew
    refine wp_region_held_drew (S := fun wx => Below w3.heap.size w3 wx) (by kernel_rfl) hdr (fun HS => ?_)
    refine wpAnyH_take (i := 0) (oi := ?oig0) (v := ?vg0) ?hig0 (by kernel_rfl) (by kernel_rfl) (by kernel_rfl) ?hQg0 ?hyg0 HS ?restg0
    case hig0 => simp only [List.getElem?_toArray, List.getElem?_cons_zero]; exact rfl
    case hQg0 => exact fun _ _ _ h => h
    case hyg0 =>
      refine Or.inl ⟨by rfl, ?_⟩
      intro wS hSw
      go_simp
      try with_reducible rfl
    try simp only [Act.put, List.setIfInBounds_toArray, List.set_cons_zero, List.set_cons_succ]
    refine wpAnyH_take (i := 2) (oi := ?oig2) (v := ?vg2) ?hig2 (by kernel_rfl) (by kernel_rfl) (by kernel_rfl) ?hQg2 ?hyg2 HS ?restg2
    case hig2 => simp only [List.getElem?_toArray, List.getElem?_cons_succ, List.getElem?_cons_zero]; exact rfl
    case hQg2 => exact fun _ _ _ h => h
    case hyg2 =>
      refine Or.inl ⟨by rfl, ?_⟩
      intro wS hSw
      go_simp
      try with_reducible rfl
    try simp only [Act.put, List.setIfInBounds_toArray, List.set_cons_zero, List.set_cons_succ]
    refine wpAnyH_take (i := 1) (oi := ?oig1) (v := ?vg1) ?hig1 (by kernel_rfl) (by kernel_rfl) (by kernel_rfl) ?hQg1 ?hyg1 HS ?restg1
    case hig1 => simp only [List.getElem?_toArray, List.getElem?_cons_succ, List.getElem?_cons_zero]; exact rfl
    case hQg1 => exact fun _ _ _ h => h
    case hyg1 =>
      refine Or.inl ⟨by rfl, ?_⟩
      intro wS hSw
      have hcv := bt_str (c := c2) ((HP3.out.below hSw (Nat.le_refl _)))
      go_simp
      try with_reducible rfl
    try simp only [Act.put, List.setIfInBounds_toArray, List.set_cons_zero, List.set_cons_succ]
    refine wpAnyH_ready (rs := [3]) (by kernel_rfl) (by simp) ?_
    refine AllReadyH.cons (o := ?og3) ?hog3 (fun K hK => ?stepg3) AllReadyH.nil
    case hog3 => simp only [List.getElem?_toArray, List.getElem?_cons_succ, List.getElem?_cons_zero]; exact rfl
    go_simp
    refine (rbtput_c (w := w3.drew) (l := L) ((HL.out.below (HB3.out.trans (hdr.mono HB3.out.size)) (Nat.le_refl _)).wide (Nat.le_refl _) (HB3.out.trans (hdr.mono HB3.out.size)).size) (by have := HN.out; omega) HI.out).mono ?_
    rintro e w4 ⟨A4, c4, rfl, hc4, ho4, hb4⟩
    have HB4 : Hid (Below w3.heap.size w3 w4) := hid (hdr.trans (hb4.mono (Nat.le_refl _)))
    have hcv := bt_str (c := c4) (Bts.own ho4)
    clear hb4 hc4 ho4
    refine hK.out _ _ HB4.out (fun HS => ?_)
    clear hK K
    try simp only [Act.put, List.setIfInBounds_toArray, List.set_cons_zero, List.set_cons_succ]
    refine wpAnyH_ready (rs := [4]) (by kernel_rfl) (by simp) ?_
    refine AllReadyH.cons (o := ?og4) ?hog4 (fun K hK => ?stepg4) AllReadyH.nil
    case hog4 => simp only [List.getElem?_toArray, List.getElem?_cons_succ, List.getElem?_cons_zero]; exact rfl
    go_simp
    refine hK.out _ _ HB4.out (fun HS => ?_)
    clear hK K
    try simp only [Act.put, List.setIfInBounds_toArray, List.set_cons_zero, List.set_cons_succ]
    refine wpAnyH_take (i := 5) (oi := ?oig5) (v := ?vg5) ?hig5 (by kernel_rfl) (by kernel_rfl) (by kernel_rfl) ?hQg5 ?hyg5 HS ?restg5
    case hig5 => simp only [List.getElem?_toArray, List.getElem?_cons_succ, List.getElem?_cons_zero]; exact rfl
    case hQg5 => exact fun _ _ _ h => h
    case hyg5 =>
      refine Or.inl ⟨by rfl, ?_⟩
      intro wS hSw
      go_simp
      try with_reducible rfl
    try simp only [Act.put, List.setIfInBounds_toArray, List.set_cons_zero, List.set_cons_succ]
    refine wpAnyH_take (i := 6) (oi := ?oig6) (v := ?vg6) ?hig6 (by kernel_rfl) (by kernel_rfl) (by kernel_rfl) ?hQg6 ?hyg6 HS ?restg6
    case hig6 => simp only [List.getElem?_toArray, List.getElem?_cons_succ, List.getElem?_cons_zero]; exact rfl
    case hQg6 => exact fun _ _ _ h => h
    case hyg6 =>
      refine Or.inl ⟨by rfl, ?_⟩
      intro wS hSw
      go_simp
      try with_reducible rfl
    try simp only [Act.put, List.setIfInBounds_toArray, List.set_cons_zero, List.set_cons_succ]
    refine wpAnyH_take (i := 7) (oi := ?oig7) (v := ?vg7) ?hig7 (by kernel_rfl) (by kernel_rfl) (by kernel_rfl) ?hQg7 ?hyg7 HS ?restg7
    case hig7 => simp only [List.getElem?_toArray, List.getElem?_cons_succ, List.getElem?_cons_zero]; exact rfl
    case hQg7 => exact fun _ _ _ h => h
    case hyg7 =>
      refine Or.inl ⟨by rfl, ?_⟩
      intro wS hSw
      go_simp
      try with_reducible rfl
    try simp only [Act.put, List.setIfInBounds_toArray, List.set_cons_zero, List.set_cons_succ]
    refine wpAnyH_take (i := 8) (oi := ?oig8) (v := ?vg8) ?hig8 (by kernel_rfl) (by kernel_rfl) (by kernel_rfl) ?hQg8 ?hyg8 HS ?restg8
    case hig8 => simp only [List.getElem?_toArray, List.getElem?_cons_succ, List.getElem?_cons_zero]; exact rfl
    case hQg8 => exact fun _ _ _ h => h
    case hyg8 =>
      refine Or.inl ⟨by rfl, ?_⟩
      intro wS hSw
      go_simp
      try with_reducible rfl
    try simp only [Act.put, List.setIfInBounds_toArray, List.set_cons_zero, List.set_cons_succ]
    refine wpAnyH_take (i := 9) (oi := ?oig9) (v := ?vg9) ?hig9 (by kernel_rfl) (by kernel_rfl) (by kernel_rfl) ?hQg9 ?hyg9 HS ?restg9
    case hig9 => simp only [List.getElem?_toArray, List.getElem?_cons_succ, List.getElem?_cons_zero]; exact rfl
    case hQg9 => exact fun _ _ _ h => h
    case hyg9 =>
      refine Or.inl ⟨by rfl, ?_⟩
      intro wS hSw
      go_simp
      try with_reducible rfl
    try simp only [Act.put, List.setIfInBounds_toArray, List.set_cons_zero, List.set_cons_succ]
    refine wpAnyH_take (i := 10) (oi := ?oig10) (v := ?vg10) ?hig10 (by kernel_rfl) (by kernel_rfl) (by kernel_rfl) ?hQg10 ?hyg10 HS ?restg10
    case hig10 => simp only [List.getElem?_toArray, List.getElem?_cons_succ, List.getElem?_cons_zero]; exact rfl
    case hQg10 => exact fun _ _ _ h => h
    case hyg10 =>
      refine Or.inl ⟨by rfl, ?_⟩
      intro wS hSw
      go_simp
      try with_reducible rfl
    try simp only [Act.put, List.setIfInBounds_toArray, List.set_cons_zero, List.set_cons_succ]
    refine wpAnyH_take (i := 11) (oi := ?oig11) (v := ?vg11) ?hig11 (by kernel_rfl) (by kernel_rfl) (by kernel_rfl) ?hQg11 ?hyg11 HS ?restg11
    case hig11 => simp only [List.getElem?_toArray, List.getElem?_cons_succ, List.getElem?_cons_zero]; exact rfl
    case hQg11 => exact fun _ _ _ h => h
    case hyg11 =>
      refine Or.inl ⟨by rfl, ?_⟩
      intro wS hSw
      go_simp
      try with_reducible rfl
    try simp only [Act.put, List.setIfInBounds_toArray, List.set_cons_zero, List.set_cons_succ]
    refine wpAnyH_take (i := 12) (oi := ?oig12) (v := ?vg12) ?hig12 (by kernel_rfl) (by kernel_rfl) (by kernel_rfl) ?hQg12 ?hyg12 HS ?restg12
    case hig12 => simp only [List.getElem?_toArray, List.getElem?_cons_succ, List.getElem?_cons_zero]; exact rfl
    case hQg12 => exact fun _ _ _ h => h
    case hyg12 =>
      refine Or.inl ⟨by rfl, ?_⟩
      intro wS hSw
      go_simp
      try with_reducible rfl
    try simp only [Act.put, List.setIfInBounds_toArray, List.set_cons_zero, List.set_cons_succ]
    refine wpAnyH_take (i := 13) (oi := ?oig13) (v := ?vg13) ?hig13 (by kernel_rfl) (by kernel_rfl) (by kernel_rfl) ?hQg13 ?hyg13 HS ?restg13
    case hig13 => simp only [List.getElem?_toArray, List.getElem?_cons_succ, List.getElem?_cons_zero]; exact rfl
    case hQg13 => exact fun _ _ _ h => h
    case hyg13 =>
      refine Or.inl ⟨by rfl, ?_⟩
      intro wS hSw
      go_simp
      try with_reducible rfl
    try simp only [Act.put, List.setIfInBounds_toArray, List.set_cons_zero, List.set_cons_succ]
    refine wpAnyH_take (i := 14) (oi := ?oig14) (v := ?vg14) ?hig14 (by kernel_rfl) (by kernel_rfl) (by kernel_rfl) ?hQg14 ?hyg14 HS ?restg14
    case hig14 => simp only [List.getElem?_toArray, List.getElem?_cons_succ, List.getElem?_cons_zero]; exact rfl
    case hQg14 => exact fun _ _ _ h => h
    case hyg14 =>
      refine Or.inl ⟨by rfl, ?_⟩
      intro wS hSw
      go_simp
      try with_reducible rfl
    try simp only [Act.put, List.setIfInBounds_toArray, List.set_cons_zero, List.set_cons_succ]
    refine wpAnyH_take (i := 15) (oi := ?oig15) (v := ?vg15) ?hig15 (by kernel_rfl) (by kernel_rfl) (by kernel_rfl) ?hQg15 ?hyg15 HS ?restg15
    case hig15 => simp only [List.getElem?_toArray, List.getElem?_cons_succ, List.getElem?_cons_zero]; exact rfl
    case hQg15 => exact fun _ _ _ h => h
    case hyg15 =>
      refine Or.inl ⟨by rfl, ?_⟩
      intro wS hSw
      go_simp
      try with_reducible rfl
    try simp only [Act.put, List.setIfInBounds_toArray, List.set_cons_zero, List.set_cons_succ]
    refine wpAnyH_take (i := 16) (oi := ?oig16) (v := ?vg16) ?hig16 (by kernel_rfl) (by kernel_rfl) (by kernel_rfl) ?hQg16 ?hyg16 HS ?restg16
    case hig16 => simp only [List.getElem?_toArray, List.getElem?_cons_succ, List.getElem?_cons_zero]; exact rfl
    case hQg16 => exact fun _ _ _ h => h
    case hyg16 =>
      refine Or.inl ⟨by rfl, ?_⟩
      intro wS hSw
      go_simp
      try with_reducible rfl
    try simp only [Act.put, List.setIfInBounds_toArray, List.set_cons_zero, List.set_cons_succ]
    refine wpAnyH_take (i := 17) (oi := ?oig17) (v := ?vg17) ?hig17 (by kernel_rfl) (by kernel_rfl) (by kernel_rfl) ?hQg17 ?hyg17 HS ?restg17
    case hig17 => simp only [List.getElem?_toArray, List.getElem?_cons_succ, List.getElem?_cons_zero]; exact rfl
    case hQg17 => exact fun _ _ _ h => h
    case hyg17 =>
      refine Or.inl ⟨by rfl, ?_⟩
      intro wS hSw
      go_simp
      try with_reducible rfl
    try simp only [Act.put, List.setIfInBounds_toArray, List.set_cons_zero, List.set_cons_succ]
    refine wpAnyH_take (i := 18) (oi := ?oig18) (v := ?vg18) ?hig18 (by kernel_rfl) (by kernel_rfl) (by kernel_rfl) ?hQg18 ?hyg18 HS ?restg18
    case hig18 => simp only [List.getElem?_toArray, List.getElem?_cons_succ, List.getElem?_cons_zero]; exact rfl
    case hQg18 => exact fun _ _ _ h => h
    case hyg18 =>
      refine Or.inl ⟨by rfl, ?_⟩
      intro wS hSw
      go_simp
      try with_reducible rfl
    try simp only [Act.put, List.setIfInBounds_toArray, List.set_cons_zero, List.set_cons_succ]
    refine wpAnyH_ready (rs := [19]) (by kernel_rfl) (by simp) ?_
    refine AllReadyH.cons (o := ?og19) ?hog19 (fun K hK => ?stepg19) AllReadyH.nil
    case hog19 => simp only [List.getElem?_toArray, List.getElem?_cons_succ, List.getElem?_cons_zero]; exact rfl
    rw [if_pos (by rfl)]
    go_simp
    refine (isame_c (w := w4) (a := L) (b := L) ((HO3.out.below HB4.out (Nat.le_refl _)).wide (Nat.le_refl _) HB4.out.size) ((HL.out.below (HB3.out.trans (HB4.out.mono HB3.out.size)) (Nat.le_refl _)).wide (Nat.le_refl _) (HB3.out.trans (HB4.out.mono HB3.out.size)).size) (by have := HN.out; omega) (by have := HN.out; omega)).mono ?_
    rintro e w6 ⟨rfl, hb6⟩
    have HB6 : Hid (Below w3.heap.size w3 w6) := hid (HB4.out.trans (hb6.mono HB4.out.size))
    clear hb6
    refine hK.out _ _ HB6.out (fun HS => ?_)
    clear hK K
    refine wpAnyH_take (i := 20) (oi := ?oig20) (v := ?vg20) ?hig20 (by kernel_rfl) (by kernel_rfl) (by kernel_rfl) ?hQg20 ?hyg20 HS ?restg20
    case hig20 => simp only [List.getElem?_toArray, List.getElem?_cons_succ, List.getElem?_cons_zero]; exact rfl
    case hQg20 => exact fun _ _ _ h => h
    case hyg20 =>
      refine Or.inl ⟨by rfl, ?_⟩
      intro wS hSw
      go_simp
      try with_reducible rfl
    try simp only [Act.put, List.setIfInBounds_toArray, List.set_cons_zero, List.set_cons_succ]
    refine wpAnyH_take (i := 21) (oi := ?oig21) (v := ?vg21) ?hig21 (by kernel_rfl) (by kernel_rfl) (by kernel_rfl) ?hQg21 ?hyg21 HS ?restg21
    case hig21 => simp only [List.getElem?_toArray, List.getElem?_cons_succ, List.getElem?_cons_zero]; exact rfl
    case hQg21 => exact fun _ _ _ h => h
    case hyg21 =>
      refine Or.inl ⟨by rfl, ?_⟩
      intro wS hSw
      go_simp
      try with_reducible rfl
    try simp only [Act.put, List.setIfInBounds_toArray, List.set_cons_zero, List.set_cons_succ]
    refine wpAnyH_take (i := 22) (oi := ?oig22) (v := ?vg22) ?hig22 (by kernel_rfl) (by kernel_rfl) (by kernel_rfl) ?hQg22 ?hyg22 HS ?restg22
    case hig22 => simp only [List.getElem?_toArray, List.getElem?_cons_succ, List.getElem?_cons_zero]; exact rfl
    case hQg22 => exact fun _ _ _ h => h
    case hyg22 =>
      refine Or.inl ⟨by rfl, ?_⟩
      intro wS hSw
      go_simp
      try with_reducible rfl
    try simp only [Act.put, List.setIfInBounds_toArray, List.set_cons_zero, List.set_cons_succ]
    refine wpAnyH_done (by kernel_rfl) ?_ _
    have HF : Hid (Below w.heap.size w w6) := hid (HB3.out.trans (HB6.out.mono HB3.out.size))
    go_wp2
    go_ret
    exact ⟨rfl, HF.out⟩
  · obtain ⟨rfl, rfl⟩ := BtG.isIt (BtG.away (b := btP L) (n := (L.length : Int)) (.inr (by omega))) hg3
    have e1 : decide ((L.length : Int) ≤ 256) = false := decide_eq_false (by omega)
    have e2 : decide (L.length ≤ 256) = false := decide_eq_false hl
    clear hg3 ho3 hc3 hb3 hl HB2 HO2
    go_wp2_with fail
    have hdr : Below w3.heap.size w3 w3.drew := (Below.refl _ _).drew
    refine wp_region_held_drew (S := fun wx => Below w3.heap.size w3 wx) (by kernel_rfl) hdr (fun HS => ?_)
    refine wpAnyH_take (i := 0) (oi := ?oih0) (v := ?vh0) ?hih0 (by kernel_rfl) (by kernel_rfl) (by kernel_rfl) ?hQh0 ?hyh0 HS ?resth0
    case hih0 => simp only [List.getElem?_toArray, List.getElem?_cons_zero]; exact rfl
    case hQh0 => exact fun _ _ _ h => h
    case hyh0 =>
      refine Or.inl ⟨by rfl, ?_⟩
      intro wS hSw
      go_simp
      try with_reducible rfl
    try simp only [Act.put, List.setIfInBounds_toArray, List.set_cons_zero, List.set_cons_succ]
    refine wpAnyH_take (i := 2) (oi := ?oih2) (v := ?vh2) ?hih2 (by kernel_rfl) (by kernel_rfl) (by kernel_rfl) ?hQh2 ?hyh2 HS ?resth2
    case hih2 => simp only [List.getElem?_toArray, List.getElem?_cons_succ, List.getElem?_cons_zero]; exact rfl
    case hQh2 => exact fun _ _ _ h => h
    case hyh2 =>
      refine Or.inl ⟨by rfl, ?_⟩
      intro wS hSw
      go_simp
      try with_reducible rfl
    try simp only [Act.put, List.setIfInBounds_toArray, List.set_cons_zero, List.set_cons_succ]
    refine wpAnyH_take (i := 1) (oi := ?oih1) (v := ?vh1) ?hih1 (by kernel_rfl) (by kernel_rfl) (by kernel_rfl) ?hQh1 ?hyh1 HS ?resth1
    case hih1 => simp only [List.getElem?_toArray, List.getElem?_cons_succ, List.getElem?_cons_zero]; exact rfl
    case hQh1 => exact fun _ _ _ h => h
    case hyh1 =>
      refine Or.inl ⟨by rfl, ?_⟩
      intro wS hSw
      have hcv := bt_str (c := c2) ((HP3.out.below hSw (Nat.le_refl _)))
      go_simp
      try with_reducible rfl
    try simp only [Act.put, List.setIfInBounds_toArray, List.set_cons_zero, List.set_cons_succ]
    refine wpAnyH_ready (rs := [3]) (by kernel_rfl) (by simp) ?_
    refine AllReadyH.cons (o := ?oh3) ?hoh3 (fun K hK => ?steph3) AllReadyH.nil
    case hoh3 => simp only [List.getElem?_toArray, List.getElem?_cons_succ, List.getElem?_cons_zero]; exact rfl
    go_simp
    refine (rbtput_c (w := w3.drew) (l := L) ((HL.out.below (HB3.out.trans (hdr.mono HB3.out.size)) (Nat.le_refl _)).wide (Nat.le_refl _) (HB3.out.trans (hdr.mono HB3.out.size)).size) (by have := HN.out; omega) HI.out).mono ?_
    rintro e w4 ⟨A4, c4, rfl, hc4, ho4, hb4⟩
    have HB4 : Hid (Below w3.heap.size w3 w4) := hid (hdr.trans (hb4.mono (Nat.le_refl _)))
    have hcv := bt_str (c := c4) (Bts.own ho4)
    clear hb4 hc4 ho4
    refine hK.out _ _ HB4.out (fun HS => ?_)
    clear hK K
    try simp only [Act.put, List.setIfInBounds_toArray, List.set_cons_zero, List.set_cons_succ]
    refine wpAnyH_ready (rs := [4]) (by kernel_rfl) (by simp) ?_
    refine AllReadyH.cons (o := ?oh4) ?hoh4 (fun K hK => ?steph4) AllReadyH.nil
    case hoh4 => simp only [List.getElem?_toArray, List.getElem?_cons_succ, List.getElem?_cons_zero]; exact rfl
    go_simp
    refine hK.out _ _ HB4.out (fun HS => ?_)
    clear hK K
    try simp only [Act.put, List.setIfInBounds_toArray, List.set_cons_zero, List.set_cons_succ]
    refine wpAnyH_take (i := 5) (oi := ?oih5) (v := ?vh5) ?hih5 (by kernel_rfl) (by kernel_rfl) (by kernel_rfl) ?hQh5 ?hyh5 HS ?resth5
    case hih5 => simp only [List.getElem?_toArray, List.getElem?_cons_succ, List.getElem?_cons_zero]; exact rfl
    case hQh5 => exact fun _ _ _ h => h
    case hyh5 =>
      refine Or.inl ⟨by rfl, ?_⟩
      intro wS hSw
      go_simp
      try with_reducible rfl
    try simp only [Act.put, List.setIfInBounds_toArray, List.set_cons_zero, List.set_cons_succ]
    refine wpAnyH_take (i := 6) (oi := ?oih6) (v := ?vh6) ?hih6 (by kernel_rfl) (by kernel_rfl) (by kernel_rfl) ?hQh6 ?hyh6 HS ?resth6
    case hih6 => simp only [List.getElem?_toArray, List.getElem?_cons_succ, List.getElem?_cons_zero]; exact rfl
    case hQh6 => exact fun _ _ _ h => h
    case hyh6 =>
      refine Or.inl ⟨by rfl, ?_⟩
      intro wS hSw
      go_simp
      try with_reducible rfl
    try simp only [Act.put, List.setIfInBounds_toArray, List.set_cons_zero, List.set_cons_succ]
    refine wpAnyH_take (i := 7) (oi := ?oih7) (v := ?vh7) ?hih7 (by kernel_rfl) (by kernel_rfl) (by kernel_rfl) ?hQh7 ?hyh7 HS ?resth7
    case hih7 => simp only [List.getElem?_toArray, List.getElem?_cons_succ, List.getElem?_cons_zero]; exact rfl
    case hQh7 => exact fun _ _ _ h => h
    case hyh7 =>
      refine Or.inl ⟨by rfl, ?_⟩
      intro wS hSw
      go_simp
      try with_reducible rfl
    try simp only [Act.put, List.setIfInBounds_toArray, List.set_cons_zero, List.set_cons_succ]
    refine wpAnyH_take (i := 8) (oi := ?oih8) (v := ?vh8) ?hih8 (by kernel_rfl) (by kernel_rfl) (by kernel_rfl) ?hQh8 ?hyh8 HS ?resth8
    case hih8 => simp only [List.getElem?_toArray, List.getElem?_cons_succ, List.getElem?_cons_zero]; exact rfl
    case hQh8 => exact fun _ _ _ h => h
    case hyh8 =>
      refine Or.inl ⟨by rfl, ?_⟩
      intro wS hSw
      go_simp
      try with_reducible rfl
    try simp only [Act.put, List.setIfInBounds_toArray, List.set_cons_zero, List.set_cons_succ]
    refine wpAnyH_take (i := 9) (oi := ?oih9) (v := ?vh9) ?hih9 (by kernel_rfl) (by kernel_rfl) (by kernel_rfl) ?hQh9 ?hyh9 HS ?resth9
    case hih9 => simp only [List.getElem?_toArray, List.getElem?_cons_succ, List.getElem?_cons_zero]; exact rfl
    case hQh9 => exact fun _ _ _ h => h
    case hyh9 =>
      refine Or.inl ⟨by rfl, ?_⟩
      intro wS hSw
      go_simp
      try with_reducible rfl
    try simp only [Act.put, List.setIfInBounds_toArray, List.set_cons_zero, List.set_cons_succ]
    refine wpAnyH_take (i := 10) (oi := ?oih10) (v := ?vh10) ?hih10 (by kernel_rfl) (by kernel_rfl) (by kernel_rfl) ?hQh10 ?hyh10 HS ?resth10
    case hih10 => simp only [List.getElem?_toArray, List.getElem?_cons_succ, List.getElem?_cons_zero]; exact rfl
    case hQh10 => exact fun _ _ _ h => h
    case hyh10 =>
      refine Or.inl ⟨by rfl, ?_⟩
      intro wS hSw
      go_simp
      try with_reducible rfl
    try simp only [Act.put, List.setIfInBounds_toArray, List.set_cons_zero, List.set_cons_succ]
    refine wpAnyH_take (i := 11) (oi := ?oih11) (v := ?vh11) ?hih11 (by kernel_rfl) (by kernel_rfl) (by kernel_rfl) ?hQh11 ?hyh11 HS ?resth11
    case hih11 => simp only [List.getElem?_toArray, List.getElem?_cons_succ, List.getElem?_cons_zero]; exact rfl
    case hQh11 => exact fun _ _ _ h => h
    case hyh11 =>
      refine Or.inl ⟨by rfl, ?_⟩
      intro wS hSw
      go_simp
      try with_reducible rfl
    try simp only [Act.put, List.setIfInBounds_toArray, List.set_cons_zero, List.set_cons_succ]
    refine wpAnyH_take (i := 12) (oi := ?oih12) (v := ?vh12) ?hih12 (by kernel_rfl) (by kernel_rfl) (by kernel_rfl) ?hQh12 ?hyh12 HS ?resth12
    case hih12 => simp only [List.getElem?_toArray, List.getElem?_cons_succ, List.getElem?_cons_zero]; exact rfl
    case hQh12 => exact fun _ _ _ h => h
    case hyh12 =>
      refine Or.inl ⟨by rfl, ?_⟩
      intro wS hSw
      go_simp
      try with_reducible rfl
    try simp only [Act.put, List.setIfInBounds_toArray, List.set_cons_zero, List.set_cons_succ]
    refine wpAnyH_take (i := 13) (oi := ?oih13) (v := ?vh13) ?hih13 (by kernel_rfl) (by kernel_rfl) (by kernel_rfl) ?hQh13 ?hyh13 HS ?resth13
    case hih13 => simp only [List.getElem?_toArray, List.getElem?_cons_succ, List.getElem?_cons_zero]; exact rfl
    case hQh13 => exact fun _ _ _ h => h
    case hyh13 =>
      refine Or.inl ⟨by rfl, ?_⟩
      intro wS hSw
      go_simp
      try with_reducible rfl
    try simp only [Act.put, List.setIfInBounds_toArray, List.set_cons_zero, List.set_cons_succ]
    refine wpAnyH_take (i := 14) (oi := ?oih14) (v := ?vh14) ?hih14 (by kernel_rfl) (by kernel_rfl) (by kernel_rfl) ?hQh14 ?hyh14 HS ?resth14
    case hih14 => simp only [List.getElem?_toArray, List.getElem?_cons_succ, List.getElem?_cons_zero]; exact rfl
    case hQh14 => exact fun _ _ _ h => h
    case hyh14 =>
      refine Or.inl ⟨by rfl, ?_⟩
      intro wS hSw
      go_simp
      try with_reducible rfl
    try simp only [Act.put, List.setIfInBounds_toArray, List.set_cons_zero, List.set_cons_succ]
    refine wpAnyH_take (i := 15) (oi := ?oih15) (v := ?vh15) ?hih15 (by kernel_rfl) (by kernel_rfl) (by kernel_rfl) ?hQh15 ?hyh15 HS ?resth15
    case hih15 => simp only [List.getElem?_toArray, List.getElem?_cons_succ, List.getElem?_cons_zero]; exact rfl
    case hQh15 => exact fun _ _ _ h => h
    case hyh15 =>
      refine Or.inl ⟨by rfl, ?_⟩
      intro wS hSw
      go_simp
      try with_reducible rfl
    try simp only [Act.put, List.setIfInBounds_toArray, List.set_cons_zero, List.set_cons_succ]
    refine wpAnyH_take (i := 16) (oi := ?oih16) (v := ?vh16) ?hih16 (by kernel_rfl) (by kernel_rfl) (by kernel_rfl) ?hQh16 ?hyh16 HS ?resth16
    case hih16 => simp only [List.getElem?_toArray, List.getElem?_cons_succ, List.getElem?_cons_zero]; exact rfl
    case hQh16 => exact fun _ _ _ h => h
    case hyh16 =>
      refine Or.inl ⟨by rfl, ?_⟩
      intro wS hSw
      go_simp
      try with_reducible rfl
    try simp only [Act.put, List.setIfInBounds_toArray, List.set_cons_zero, List.set_cons_succ]
    refine wpAnyH_take (i := 17) (oi := ?oih17) (v := undef) ?hih17 (by kernel_rfl) (by kernel_rfl) (by kernel_rfl) ?hQh17 ?hyh17 HS ?resth17
    case hih17 => simp only [List.getElem?_toArray, List.getElem?_cons_succ, List.getElem?_cons_zero]; exact rfl
    case hQh17 => exact fun _ _ _ h => h
    case hyh17 =>
      refine Or.inr ⟨by rfl, rfl⟩
    try simp only [Act.put, List.setIfInBounds_toArray, List.set_cons_zero, List.set_cons_succ]
    refine wpAnyH_take (i := 18) (oi := ?oih18) (v := undef) ?hih18 (by kernel_rfl) (by kernel_rfl) (by kernel_rfl) ?hQh18 ?hyh18 HS ?resth18
    case hih18 => simp only [List.getElem?_toArray, List.getElem?_cons_succ, List.getElem?_cons_zero]; exact rfl
    case hQh18 => exact fun _ _ _ h => h
    case hyh18 =>
      refine Or.inr ⟨by rfl, rfl⟩
    try simp only [Act.put, List.setIfInBounds_toArray, List.set_cons_zero, List.set_cons_succ]
    refine wpAnyH_take (i := 19) (oi := ?oih19) (v := undef) ?hih19 (by kernel_rfl) (by kernel_rfl) (by kernel_rfl) ?hQh19 ?hyh19 HS ?resth19
    case hih19 => simp only [List.getElem?_toArray, List.getElem?_cons_succ, List.getElem?_cons_zero]; exact rfl
    case hQh19 => exact fun _ _ _ h => h
    case hyh19 =>
      refine Or.inr ⟨by rfl, rfl⟩
    try simp only [Act.put, List.setIfInBounds_toArray, List.set_cons_zero, List.set_cons_succ]
    refine wpAnyH_take (i := 20) (oi := ?oih20) (v := ?vh20) ?hih20 (by kernel_rfl) (by kernel_rfl) (by kernel_rfl) ?hQh20 ?hyh20 HS ?resth20
    case hih20 => simp only [List.getElem?_toArray, List.getElem?_cons_succ, List.getElem?_cons_zero]; exact rfl
    case hQh20 => exact fun _ _ _ h => h
    case hyh20 =>
      refine Or.inl ⟨by rfl, ?_⟩
      intro wS hSw
      go_simp
      try with_reducible rfl
    try simp only [Act.put, List.setIfInBounds_toArray, List.set_cons_zero, List.set_cons_succ]
    refine wpAnyH_take (i := 21) (oi := ?oih21) (v := ?vh21) ?hih21 (by kernel_rfl) (by kernel_rfl) (by kernel_rfl) ?hQh21 ?hyh21 HS ?resth21
    case hih21 => simp only [List.getElem?_toArray, List.getElem?_cons_succ, List.getElem?_cons_zero]; exact rfl
    case hQh21 => exact fun _ _ _ h => h
    case hyh21 =>
      refine Or.inl ⟨by rfl, ?_⟩
      intro wS hSw
      go_simp
      try with_reducible rfl
    try simp only [Act.put, List.setIfInBounds_toArray, List.set_cons_zero, List.set_cons_succ]
    refine wpAnyH_take (i := 22) (oi := ?oih22) (v := ?vh22) ?hih22 (by kernel_rfl) (by kernel_rfl) (by kernel_rfl) ?hQh22 ?hyh22 HS ?resth22
    case hih22 => simp only [List.getElem?_toArray, List.getElem?_cons_succ, List.getElem?_cons_zero]; exact rfl
    case hQh22 => exact fun _ _ _ h => h
    case hyh22 =>
      refine Or.inl ⟨by rfl, ?_⟩
      intro wS hSw
      go_simp
      try with_reducible rfl
    try simp only [Act.put, List.setIfInBounds_toArray, List.set_cons_zero, List.set_cons_succ]
    refine wpAnyH_done (by kernel_rfl) ?_ _
    have HF : Hid (Below w.heap.size w w4) := hid (HB3.out.trans (HB4.out.mono HB3.out.size))
    go_wp2
    go_ret
    exact ⟨rfl, HF.out⟩
end Go.Proofs.Ytejmllpffocneaa
