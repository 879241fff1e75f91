/- The walk of StoreParses: it answers true, whatever the input. -/
import Derived.Test.YtolaojkcofbkhaaGreatRsQ
import Derived.Test.YtolaojkcofbkhaaGreatStFirst
import Derived.Test.YtolaojkcofbkhaaGreatFrame
namespace Go.Proofs.YtolaojkcofbkhaaGreat
open Go.RowKit Go.ChangeShapes Go.WideShapes Go.ChangeAt

theorem sp_str {w : World} {lo hi n c : Nat} {A : Option Addr} {l : List UInt8} (h : Bts w lo hi A n l) : (convert 51 9 (.slice A n c)).run Tryz.prog w = .ok (.string (str l)) w :=
  run_str (P := Tryz.prog) (c := c) 51 9 5 Tryz.underlying51 Tryz.underlying5 Tryz.underlying9 h
set_option maxRecDepth 100000 in
set_option maxHeartbeats 16000000 in
theorem walkStoreParses (A : Option Addr) (n c : Nat) (z0 : List Int) (w : World) (w0 : IsRow .u8 w A n c z0) :
    Calls Tryz.prog 4 #[.slice A n c] w fun e w' => e = .returned (.bool true) ∧ Below w.heap.size w w' := by
  obtain ⟨b, hb, hc, _⟩ := argB w0
  have hb' : b.length = n := hb.len
  subst hb'
  have HL : Hid (Bts w 0 w.heap.size A b.length b) := hid hb
  have HC := hid hc
  clear w0 hb hc
  go_enter Tryz.func4, Tryz.ntmps4
  go_wp2_with fail
  refine (stfirst_c w).mono ?_
  rintro e w1 ⟨rfl, hb1⟩
  have HB1 := hid hb1
  clear hb1
  by_cases hbig : 3000 < b.length
  · have e1 : decide ((3000 : Int) < (b.length : Int)) = true := decide_eq_true (by omega)
    have e2 : decide (3000 < b.length) = true := decide_eq_true hbig
    clear hbig
    go_wp2
    go_ret
    exact ⟨rfl, HB1.out⟩
  have e1 : decide ((3000 : Int) < (b.length : Int)) = false := decide_eq_false (by omega)
  have e2 : decide (3000 < b.length) = false := decide_eq_false hbig
  have HN : Hid (b.length ≤ 3000) := hid (by omega)
  clear hbig
  go_wp2_with fail
  clear e1 e2
  refine (parse_c A b.length c b w1 ((HL.out.below HB1.out (Nat.le_refl _)).wide (Nat.le_refl _) HB1.out.size) (by have := HN.out; omega)).mono ?_
  rintro e w2 ⟨A2, n2, c2, rfl, hn2, hr2, hb2⟩
  have HB2 : Hid (Below w.heap.size w w2) := hid (HB1.out.trans (hb2.mono HB1.out.size))
  have hPB := refP_par b
  obtain ⟨P, hP⟩ : ∃ P, P = (refP b).1 := ⟨_, rfl⟩
  obtain ⟨ok, hok⟩ : ∃ ok, ok = (refP b).2 := ⟨_, rfl⟩
  have HP := hid hP
  have HOK := hid hok
  rw [← hP, ← hok] at hPB
  clear hP hok hb2
  cases ok with
  | false =>
    rw [if_neg (by decide)] at hPB
    rw [hPB] at hn2 ⊢
    have hn2' : n2 = 0 := hn2
    subst hn2'
    clear hn2 hr2 hPB
    go_wp2_with fail
    refine (rparse_c A b.length c b w2 ((HL.out.below HB2.out (Nat.le_refl _)).wide (Nat.le_refl _) HB2.out.size) HC.out (by have := HN.out; omega)).mono ?_
    rintro e w3 ⟨A3, c3, rfl, -, hb3⟩
    have HB3 : Hid (Below w.heap.size w w3) := hid (HB2.out.trans (hb3.mono HB2.out.size))
    rw [← HOK.out, ← HP.out]
    clear hb3
    go_wp2
    go_ret
    exact ⟨rfl, HB3.out⟩
  | true =>
    rw [if_pos rfl] at hPB
    rw [hPB] at hn2 hr2 ⊢
    have hn2' : n2 = P.length := hn2
    subst hn2'
    have hr2' : BRow 90 w2 w1.heap.size A2 c2 P := hr2
    have HR2 := hid hr2'
    have HBK := hid (parB_back hPB)
    have HPL : Hid (∀ x ∈ P, x.nm.length ≤ 100000) := hid (fun x hx => Nat.le_trans ((parB_back hPB).2.1.1 x hx).1.2 (by decide))
    have HPN : Hid (P.length ≤ 1000) := hid (parB_back hPB).2.1.2.2
    clear hn2 hr2 hPB hr2'
    go_wp2_with fail
    refine (rparse_c A b.length c b w2 ((HL.out.below HB2.out (Nat.le_refl _)).wide (Nat.le_refl _) HB2.out.size) HC.out (by have := HN.out; omega)).mono ?_
    rintro e w3 ⟨A3, c3, rfl, hr3, hb3⟩
    rw [← HP.out] at hr3
    rw [← HOK.out, ← HP.out]
    have HB3 : Hid (Below w.heap.size w w3) := hid (HB2.out.trans (hb3.mono HB2.out.size))
    have HR3 := hid hr3
    have HR23 : Hid (BRow 90 w3 w1.heap.size A2 c2 P) := hid (own_bel HR2.out hb3)
    clear hb3 hr3 HR2
    go_wp2_with fail
    have hdr : Below w3.heap.size w3 w3.drew := (Below.refl _ _).drew
    refine wp_region_held_drew (S := fun wx => Below w3.heap.size w3 wx) (by kernel_rfl) hdr (fun HS => ?_)
    refine wpAnyH_take (i := 0) (oi := ?oig0) (v := ?vg0) ?hig0 (by kernel_rfl) (by kernel_rfl) (by kernel_rfl) ?hQg0 ?hyg0 HS ?restg0
    case hig0 => simp only [List.getElem?_toArray, List.getElem?_cons_zero]; exact rfl
    case hQg0 => exact fun _ _ _ h => h
    case hyg0 =>
      refine Or.inl ⟨by rfl, ?_⟩
      intro wS hSw
      go_simp
      try with_reducible rfl
    try simp only [Act.put, List.setIfInBounds_toArray, List.set_cons_zero, List.set_cons_succ]
    refine wpAnyH_take (i := 1) (oi := ?oig1) (v := ?vg1) ?hig1 (by kernel_rfl) (by kernel_rfl) (by kernel_rfl) ?hQg1 ?hyg1 HS ?restg1
    case hig1 => simp only [List.getElem?_toArray, List.getElem?_cons_succ, List.getElem?_cons_zero]; exact rfl
    case hQg1 => exact fun _ _ _ h => h
    case hyg1 =>
      refine Or.inl ⟨by rfl, ?_⟩
      intro wS hSw
      go_simp
      try with_reducible rfl
    try simp only [Act.put, List.setIfInBounds_toArray, List.set_cons_zero, List.set_cons_succ]
    refine wpAnyH_take (i := 2) (oi := ?oig2) (v := ?vg2) ?hig2 (by kernel_rfl) (by kernel_rfl) (by kernel_rfl) ?hQg2 ?hyg2 HS ?restg2
    case hig2 => simp only [List.getElem?_toArray, List.getElem?_cons_succ, List.getElem?_cons_zero]; exact rfl
    case hQg2 => exact fun _ _ _ h => h
    case hyg2 =>
      refine Or.inl ⟨by rfl, ?_⟩
      intro wS hSw
      go_simp
      try with_reducible rfl
    try simp only [Act.put, List.setIfInBounds_toArray, List.set_cons_zero, List.set_cons_succ]
    refine wpAnyH_take (i := 3) (oi := ?oig3) (v := ?vg3) ?hig3 (by kernel_rfl) (by kernel_rfl) (by kernel_rfl) ?hQg3 ?hyg3 HS ?restg3
    case hig3 => simp only [List.getElem?_toArray, List.getElem?_cons_succ, List.getElem?_cons_zero]; exact rfl
    case hQg3 => exact fun _ _ _ h => h
    case hyg3 =>
      refine Or.inl ⟨by rfl, ?_⟩
      intro wS hSw
      go_simp
      try with_reducible rfl
    try simp only [Act.put, List.setIfInBounds_toArray, List.set_cons_zero, List.set_cons_succ]
    refine wpAnyH_ready (rs := [4]) (by kernel_rfl) (by simp) ?_
    refine AllReadyH.cons (o := ?og4) ?hog4 (fun K hK => ?stepg4) AllReadyH.nil
    case hog4 => simp only [List.getElem?_toArray, List.getElem?_cons_succ, List.getElem?_cons_zero]; exact rfl
    rw [if_pos (by rfl)]
    go_simp
    refine (ssame_c (own_bel HR23.out hdr : BRow 90 w3.drew w1.heap.size A2 c2 P) (own_bel HR3.out hdr : BRow 90 w3.drew w2.heap.size A3 c3 P) (by have := HPN.out; omega)).mono ?_
    rintro e w4 ⟨rfl, hb4⟩
    have HB4 : Hid (Below w3.heap.size w3 w4) := hid (hdr.trans (hb4.mono (Nat.le_refl _)))
    rw [show decide (P = P) = true from decide_eq_true rfl]
    clear hb4
    refine hK.out _ _ HB4.out (fun HS => ?_)
    clear hK K
    try simp only [Act.put, List.setIfInBounds_toArray, List.set_cons_zero, List.set_cons_succ]
    refine wpAnyH_take (i := 5) (oi := ?oig5) (v := ?vg5) ?hig5 (by kernel_rfl) (by kernel_rfl) (by kernel_rfl) ?hQg5 ?hyg5 HS ?restg5
    case hig5 => simp only [List.getElem?_toArray, List.getElem?_cons_succ, List.getElem?_cons_zero]; exact rfl
    case hQg5 => exact fun _ _ _ h => h
    case hyg5 =>
      refine Or.inl ⟨by rfl, ?_⟩
      intro wS hSw
      go_simp
      try with_reducible rfl
    try simp only [Act.put, List.setIfInBounds_toArray, List.set_cons_zero, List.set_cons_succ]
    refine wpAnyH_take (i := 6) (oi := ?oig6) (v := ?vg6) ?hig6 (by kernel_rfl) (by kernel_rfl) (by kernel_rfl) ?hQg6 ?hyg6 HS ?restg6
    case hig6 => simp only [List.getElem?_toArray, List.getElem?_cons_succ, List.getElem?_cons_zero]; exact rfl
    case hQg6 => exact fun _ _ _ h => h
    case hyg6 =>
      refine Or.inl ⟨by rfl, ?_⟩
      intro wS hSw
      go_simp
      try with_reducible rfl
    try simp only [Act.put, List.setIfInBounds_toArray, List.set_cons_zero, List.set_cons_succ]
    refine wpAnyH_take (i := 7) (oi := ?oig7) (v := ?vg7) ?hig7 (by kernel_rfl) (by kernel_rfl) (by kernel_rfl) ?hQg7 ?hyg7 HS ?restg7
    case hig7 => simp only [List.getElem?_toArray, List.getElem?_cons_succ, List.getElem?_cons_zero]; exact rfl
    case hQg7 => exact fun _ _ _ h => h
    case hyg7 =>
      refine Or.inl ⟨by rfl, ?_⟩
      intro wS hSw
      go_simp
      try with_reducible rfl
    try simp only [Act.put, List.setIfInBounds_toArray, List.set_cons_zero, List.set_cons_succ]
    refine wpAnyH_take (i := 10) (oi := ?oig10) (v := ?vg10) ?hig10 (by kernel_rfl) (by kernel_rfl) (by kernel_rfl) ?hQg10 ?hyg10 HS ?restg10
    case hig10 => simp only [List.getElem?_toArray, List.getElem?_cons_succ, List.getElem?_cons_zero]; exact rfl
    case hQg10 => exact fun _ _ _ h => h
    case hyg10 =>
      refine Or.inl ⟨by rfl, ?_⟩
      intro wS hSw
      go_simp
      try with_reducible rfl
    try simp only [Act.put, List.setIfInBounds_toArray, List.set_cons_zero, List.set_cons_succ]
    refine wpAnyH_take (i := 11) (oi := ?oig11) (v := ?vg11) ?hig11 (by kernel_rfl) (by kernel_rfl) (by kernel_rfl) ?hQg11 ?hyg11 HS ?restg11
    case hig11 => simp only [List.getElem?_toArray, List.getElem?_cons_succ, List.getElem?_cons_zero]; exact rfl
    case hQg11 => exact fun _ _ _ h => h
    case hyg11 =>
      refine Or.inl ⟨by rfl, ?_⟩
      intro wS hSw
      have hcv := sp_str (c := c) (HL.out.below (HB3.out.trans (hSw.mono HB3.out.size)) (Nat.le_refl _))
      go_simp
      try with_reducible rfl
    try simp only [Act.put, List.setIfInBounds_toArray, List.set_cons_zero, List.set_cons_succ]
    refine wpAnyH_ready (rs := [8]) (by kernel_rfl) (by simp) ?_
    refine AllReadyH.cons (o := ?og8) ?hog8 (fun K hK => ?stepg8) AllReadyH.nil
    case hog8 => simp only [List.getElem?_toArray, List.getElem?_cons_succ, List.getElem?_cons_zero]; exact rfl
    rw [if_pos (by rfl)]
    go_simp
    refine (directory_c A2 P.length c2 P w4 (by exact BRow.sl (own_bel HR23.out HB4.out : BRow 90 w4 w1.heap.size A2 c2 P)) HBK.out.2.2 HPL.out (by have := HPN.out; omega) (by rw [HBK.out.1]; have := HN.out; omega)).mono ?_
    rintro e w5 ⟨A5, c5, rfl, hc5, ho5, hb5⟩
    have HB5 : Hid (Below w3.heap.size w3 w5) := hid (HB4.out.trans (hb5.mono HB4.out.size))
    have hcv := sp_str (c := c5) (Bts.own ho5)
    rw [HBK.out.1] at hcv ⊢
    clear hb5 hc5 ho5
    refine hK.out _ _ HB5.out (fun HS => ?_)
    clear hK K
    try simp only [Act.put, List.setIfInBounds_toArray, List.set_cons_zero, List.set_cons_succ]
    refine wpAnyH_ready (rs := [9]) (by kernel_rfl) (by simp) ?_
    refine AllReadyH.cons (o := ?og9) ?hog9 (fun K hK => ?stepg9) AllReadyH.nil
    case hog9 => simp only [List.getElem?_toArray, List.getElem?_cons_succ, List.getElem?_cons_zero]; exact rfl
    rw [if_pos (by rfl)]
    go_simp
    refine hK.out _ _ HB5.out (fun HS => ?_)
    clear hK K
    try simp only [Act.put, List.setIfInBounds_toArray, List.set_cons_zero, List.set_cons_succ]
    refine wpAnyH_take (i := 12) (oi := ?oig12) (v := ?vg12) ?hig12 (by kernel_rfl) (by kernel_rfl) (by kernel_rfl) ?hQg12 ?hyg12 HS ?restg12
    case hig12 => simp only [List.getElem?_toArray, List.getElem?_cons_succ, List.getElem?_cons_zero]; exact rfl
    case hQg12 => exact fun _ _ _ h => h
    case hyg12 =>
      refine Or.inl ⟨by rfl, ?_⟩
      intro wS hSw
      go_simp
      try with_reducible rfl
    try simp only [Act.put, List.setIfInBounds_toArray, List.set_cons_zero, List.set_cons_succ]
    refine wpAnyH_take (i := 13) (oi := ?oig13) (v := ?vg13) ?hig13 (by kernel_rfl) (by kernel_rfl) (by kernel_rfl) ?hQg13 ?hyg13 HS ?restg13
    case hig13 => simp only [List.getElem?_toArray, List.getElem?_cons_succ, List.getElem?_cons_zero]; exact rfl
    case hQg13 => exact fun _ _ _ h => h
    case hyg13 =>
      refine Or.inl ⟨by rfl, ?_⟩
      intro wS hSw
      go_simp
      try with_reducible rfl
    try simp only [Act.put, List.setIfInBounds_toArray, List.set_cons_zero, List.set_cons_succ]
    refine wpAnyH_take (i := 14) (oi := ?oig14) (v := ?vg14) ?hig14 (by kernel_rfl) (by kernel_rfl) (by kernel_rfl) ?hQg14 ?hyg14 HS ?restg14
    case hig14 => simp only [List.getElem?_toArray, List.getElem?_cons_succ, List.getElem?_cons_zero]; exact rfl
    case hQg14 => exact fun _ _ _ h => h
    case hyg14 =>
      refine Or.inl ⟨by rfl, ?_⟩
      intro wS hSw
      go_simp
      try with_reducible rfl
    try simp only [Act.put, List.setIfInBounds_toArray, List.set_cons_zero, List.set_cons_succ]
    refine wpAnyH_done (by kernel_rfl) ?_ _
    have HF : Hid (Below w.heap.size w w5) := hid (HB3.out.trans (HB5.out.mono HB3.out.size))
    go_wp2
    go_ret
    exact ⟨rfl, HF.out⟩
end Go.Proofs.YtolaojkcofbkhaaGreat
