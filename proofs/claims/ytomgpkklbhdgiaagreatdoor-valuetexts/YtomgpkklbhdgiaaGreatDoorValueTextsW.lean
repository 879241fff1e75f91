/- The walk of ValueTexts: for every two values the law answers true. -/
import Derived.Test.YtomgpkklbhdgiaaGreatDoorVlEq
import Derived.Test.YtomgpkklbhdgiaaGreatDoorVlPut
namespace Go.Proofs.YtomgpkklbhdgiaaGreatDoor
open Go.RowKit

set_option maxRecDepth 20000 in
set_option maxHeartbeats 8000000 in
theorem coreValueTexts (a b : Vl) (w : World) (fa : vf a < 18446744073709551616) (fb : vf b < 18446744073709551616) (a1 : -9223372036854775808 ≤ vn a) (a2 : vn a ≤ 9223372036854775807) (b1 : -9223372036854775808 ≤ vn b) (b2 : vn b ≤ 9223372036854775807) (hw : Lw w) :
    Calls Tryz.prog 10 #[(.agg #[.int .i64 (vk a), .int .i64 (vn a), .string (str (vs a)), .int .u64 ((vf a : Nat) : Int)]), (.agg #[.int .i64 (vk b), .int .i64 (vn b), .string (str (vs b)), .int .u64 ((vf b : Nat) : Int)])] w fun e w' => e = .returned (.bool true) ∧ Below w.heap.size w w' := by
  have HW := hid hw
  have RA := hid (fun wx => rRight_c a fa wx)
  have RB := hid (fun wx => rRight_c b fb wx)
  have CA := hid (fun wx (h : Lw wx) => vprint_c a fa a1 a2 wx h)
  have CB := hid (fun wx (h : Lw wx) => vprint_c b fb b1 b2 wx h)
  have PA := hid (fun wx => put_c none 0 0 [] a wx (fun _ => ⟨rfl, rfl⟩) (Nat.le_refl 0) (Bts.nil _ _ _ _) (by decide) fa a1 a2)
  have PB := hid (fun wx => put_c none 0 0 [] b wx (fun _ => ⟨rfl, rfl⟩) (Nat.le_refl 0) (Bts.nil _ _ _ _) (by decide) fb b1 b2)
  have OC := hid (fun wx => vorder_c a b fa fb wx)
  have HI : Hid (vRight a = true → vRight b = true → a ≠ b → vPrint a ≠ vPrint b ∧ vPutR (vRt a) ≠ vPutR (vRt b) ∧ vOrd a b ≠ 0) := hid (fun ha hb hab => by
    refine ⟨?_, ?_, ?_⟩
    · show vPrintR (vRt a) ≠ vPrintR (vRt b)
      rw [vRt_of ha, vRt_of hb]
      exact fun e => hab ((vPrint_inj ha hb fa fb).1 e)
    · rw [vRt_of ha, vRt_of hb]
      exact fun e => hab ((vPut_inj ha hb fa fb a1 a2 b1 b2).1 e)
    · show vOrdR (vRt a) (vRt b) ≠ 0
      rw [vRt_of ha, vRt_of hb]
      exact fun e => hab ((vOrd_zero ha hb fa fb).1 e))
  have HZ : Hid (vRight a = true → vOrd a a = 0) := hid (fun ha => by
    show vOrdR (vRt a) (vRt a) = 0
    rw [vRt_of ha]
    exact (vOrd_zero ha ha fa fa).2 rfl)
  clear hw fa fb a1 a2 b1 b2
  go_enter Tryz.func10, Tryz.ntmps10
  go_wp2_with fail
  refine (first_c _ (HW.out.below (bel2 w _ _))).mono ?_
  rintro e w1 ⟨rfl, hb1⟩
  have H1 := Two2.mk hb1
  clear hb1
  obtain ⟨p0, p1, p2, p3, -⟩ := Blk.v4 H1.1
  go_wp2_with fail
  refine (RA.out _).mono ?_
  rintro e w2 ⟨rfl, hb2⟩
  have H2 := H1.step hb2
  clear p0 p1 p2 p3 H1 hb2
  obtain ⟨q0, q1, q2, q3, -⟩ := Blk.v4 H2.2.1
  cases ha : vRight a
  · have HB := hid H2.2.2
    clear H2 ha
    go_wp2
    go_ret
    exact ⟨rfl, HB.out⟩
  go_wp2_with fail
  refine (RB.out _).mono ?_
  rintro e w3 ⟨rfl, hb3⟩
  have H3 := H2.step hb3
  clear q0 q1 q2 q3 H2 hb3
  obtain ⟨p0, p1, p2, p3, -⟩ := Blk.v4 H3.1
  obtain ⟨q0, q1, q2, q3, -⟩ := Blk.v4 H3.2.1
  cases hb : vRight b
  · have HB := hid H3.2.2
    clear H3 ha hb
    go_wp2
    go_ret
    exact ⟨rfl, HB.out⟩
  by_cases hab : a = b
  · have hz := HZ.out ha
    subst hab
    generalize vPrint a = sa at *
    generalize vPutR (vRt a) = la at *
    rw [hz] at OC
    have H5 := H3
    clear HI HZ RA RB hz ha hb H3
    go_upto_region 6 with fail
    clear p0 p1 p2 p3 q0 q1 q2 q3
    refine wp_region_held_drew (S := Two2 w w.heap.size a a) (by kernel_rfl) H5.drew (fun HS => ?_)
    refine wpAnyH_take (i := 0) (oi := ?oi0) (v := ?v0) ?hi0 (by kernel_rfl) (by kernel_rfl) (by kernel_rfl) ?hQ0 ?hy0 HS ?rest0
    case hi0 => simp only [List.getElem?_toArray, List.getElem?_cons_zero]; exact rfl
    case hQ0 => exact fun _ _ _ h => h
    case hy0 =>
      refine Or.inl ⟨by rfl, ?_⟩
      intro wS hSw
      obtain ⟨p0, p1, p2, p3, -⟩ := Blk.v4 hSw.1
      obtain ⟨q0, q1, q2, q3, -⟩ := Blk.v4 hSw.2.1
      go_simp
      try with_reducible rfl
    try simp only [Act.put, List.setIfInBounds_toArray, List.set_cons_zero, List.set_cons_succ]
    refine wpAnyH_take (i := 2) (oi := ?oi2) (v := ?v2) ?hi2 (by kernel_rfl) (by kernel_rfl) (by kernel_rfl) ?hQ2 ?hy2 HS ?rest2
    case hi2 => simp only [List.getElem?_toArray, List.getElem?_cons_succ, List.getElem?_cons_zero]; exact rfl
    case hQ2 => exact fun _ _ _ h => h
    case hy2 =>
      refine Or.inl ⟨by rfl, ?_⟩
      intro wS hSw
      obtain ⟨p0, p1, p2, p3, -⟩ := Blk.v4 hSw.1
      obtain ⟨q0, q1, q2, q3, -⟩ := Blk.v4 hSw.2.1
      go_simp
      try with_reducible rfl
    try simp only [Act.put, List.setIfInBounds_toArray, List.set_cons_zero, List.set_cons_succ]
    refine wpAnyH_take (i := 5) (oi := ?oi5) (v := ?v5) ?hi5 (by kernel_rfl) (by kernel_rfl) (by kernel_rfl) ?hQ5 ?hy5 HS ?rest5
    case hi5 => simp only [List.getElem?_toArray, List.getElem?_cons_succ, List.getElem?_cons_zero]; exact rfl
    case hQ5 => exact fun _ _ _ h => h
    case hy5 =>
      refine Or.inl ⟨by rfl, ?_⟩
      intro wS hSw
      go_simp
      try with_reducible rfl
    try simp only [Act.put, List.setIfInBounds_toArray, List.set_cons_zero, List.set_cons_succ]
    refine wpAnyH_ready (rs := [1]) (by kernel_rfl) (by simp) ?_
    refine AllReadyH.cons (o := ?o1) ?ho1 (fun K hK => ?step1) AllReadyH.nil
    case ho1 => simp only [List.getElem?_toArray, List.getElem?_cons_succ, List.getElem?_cons_zero]; exact rfl
    go_simp
    refine (CA.out _ (HW.out.below HS.2.2)).mono ?_
    rintro e w101 ⟨rfl, hb101⟩
    refine hK.out _ _ (Two2.step HS hb101) (fun HS => ?_)
    clear hK K
    try simp only [Act.put, List.setIfInBounds_toArray, List.set_cons_zero, List.set_cons_succ]
    refine wpAnyH_ready (rs := [3]) (by kernel_rfl) (by simp) ?_
    refine AllReadyH.cons (o := ?o3) ?ho3 (fun K hK => ?step3) AllReadyH.nil
    case ho3 => simp only [List.getElem?_toArray, List.getElem?_cons_succ, List.getElem?_cons_zero]; exact rfl
    go_simp
    refine (CB.out _ (HW.out.below HS.2.2)).mono ?_
    rintro e w103 ⟨rfl, hb103⟩
    refine hK.out _ _ (Two2.step HS hb103) (fun HS => ?_)
    clear hK K
    try simp only [Act.put, List.setIfInBounds_toArray, List.set_cons_zero, List.set_cons_succ]
    refine wpAnyH_take (i := 4) (oi := ?oi4) (v := ?v4) ?hi4 (by kernel_rfl) (by kernel_rfl) (by kernel_rfl) ?hQ4 ?hy4 HS ?rest4
    case hi4 => simp only [List.getElem?_toArray, List.getElem?_cons_succ, List.getElem?_cons_zero]; exact rfl
    case hQ4 => exact fun _ _ _ h => h
    case hy4 =>
      refine Or.inl ⟨by rfl, ?_⟩
      intro wS hSw
      go_simp
      try with_reducible rfl
    try simp only [Act.put, List.setIfInBounds_toArray, List.set_cons_zero, List.set_cons_succ]
    refine wpAnyH_take (i := 6) (oi := ?oi6) (v := ?v6) ?hi6 (by kernel_rfl) (by kernel_rfl) (by kernel_rfl) ?hQ6 ?hy6 HS ?rest6
    case hi6 => simp only [List.getElem?_toArray, List.getElem?_cons_succ, List.getElem?_cons_zero]; exact rfl
    case hQ6 => exact fun _ _ _ h => h
    case hy6 =>
      refine Or.inl ⟨by rfl, ?_⟩
      intro wS hSw
      go_simp
      try with_reducible rfl
    try simp only [Act.put, List.setIfInBounds_toArray, List.set_cons_zero, List.set_cons_succ]
    refine wpAnyH_take (i := 7) (oi := ?oi7) (v := ?v7) ?hi7 (by kernel_rfl) (by kernel_rfl) (by kernel_rfl) ?hQ7 ?hy7 HS ?rest7
    case hi7 => simp only [List.getElem?_toArray, List.getElem?_cons_succ, List.getElem?_cons_zero]; exact rfl
    case hQ7 => exact fun _ _ _ h => h
    case hy7 =>
      refine Or.inl ⟨by rfl, ?_⟩
      intro wS hSw
      go_simp
      try with_reducible rfl
    try simp only [Act.put, List.setIfInBounds_toArray, List.set_cons_zero, List.set_cons_succ]
    refine wpAnyH_take (i := 8) (oi := ?oi8) (v := ?v8) ?hi8 (by kernel_rfl) (by kernel_rfl) (by kernel_rfl) ?hQ8 ?hy8 HS ?rest8
    case hi8 => simp only [List.getElem?_toArray, List.getElem?_cons_succ, List.getElem?_cons_zero]; exact rfl
    case hQ8 => exact fun _ _ _ h => h
    case hy8 =>
      refine Or.inl ⟨by rfl, ?_⟩
      intro wS hSw
      obtain ⟨p0, p1, p2, p3, -⟩ := Blk.v4 hSw.1
      obtain ⟨q0, q1, q2, q3, -⟩ := Blk.v4 hSw.2.1
      go_simp
      try with_reducible rfl
    try simp only [Act.put, List.setIfInBounds_toArray, List.set_cons_zero, List.set_cons_succ]
    refine wpAnyH_take (i := 11) (oi := ?oi11) (v := ?v11) ?hi11 (by kernel_rfl) (by kernel_rfl) (by kernel_rfl) ?hQ11 ?hy11 HS ?rest11
    case hi11 => simp only [List.getElem?_toArray, List.getElem?_cons_succ, List.getElem?_cons_zero]; exact rfl
    case hQ11 => exact fun _ _ _ h => h
    case hy11 =>
      refine Or.inl ⟨by rfl, ?_⟩
      intro wS hSw
      obtain ⟨p0, p1, p2, p3, -⟩ := Blk.v4 hSw.1
      obtain ⟨q0, q1, q2, q3, -⟩ := Blk.v4 hSw.2.1
      go_simp
      try with_reducible rfl
    try simp only [Act.put, List.setIfInBounds_toArray, List.set_cons_zero, List.set_cons_succ]
    refine wpAnyH_take (i := 15) (oi := ?oi15) (v := ?v15) ?hi15 (by kernel_rfl) (by kernel_rfl) (by kernel_rfl) ?hQ15 ?hy15 HS ?rest15
    case hi15 => simp only [List.getElem?_toArray, List.getElem?_cons_succ, List.getElem?_cons_zero]; exact rfl
    case hQ15 => exact fun _ _ _ h => h
    case hy15 =>
      refine Or.inl ⟨by rfl, ?_⟩
      intro wS hSw
      go_simp
      try with_reducible rfl
    try simp only [Act.put, List.setIfInBounds_toArray, List.set_cons_zero, List.set_cons_succ]
    refine wpAnyH_ready (rs := [9]) (by kernel_rfl) (by simp) ?_
    refine AllReadyH.cons (o := ?o9) ?ho9 (fun K hK => ?step9) AllReadyH.nil
    case ho9 => simp only [List.getElem?_toArray, List.getElem?_cons_succ, List.getElem?_cons_zero]; exact rfl
    go_simp
    refine (PA.out _).mono ?_
    intro e w109 hrow109
    obtain ⟨A9, N9, c9, rfl, hN9, hc9, ho9, hbt9, hb9⟩ := hrow109.out
    have hcv9 := run_str (P := Tryz.prog) (c := c9) 36 9 5 Tryz.underlying36 Tryz.underlying5 Tryz.underlying9 hbt9
    refine hK.out _ _ (Two2.step HS hb9) (fun HS => ?_)
    clear hK K
    try simp only [Act.put, List.setIfInBounds_toArray, List.set_cons_zero, List.set_cons_succ]
    refine wpAnyH_ready (rs := [10, 12]) (by kernel_rfl) (by simp) ?_
    refine (AllReadyH.cons (o := ?or10) ?hor10 (fun K hK => ?stepr10) (AllReadyH.cons (o := ?or12) ?hor12 (fun K hK => ?stepr12) AllReadyH.nil))
    case hor10 => simp only [List.getElem?_toArray, List.getElem?_cons_succ, List.getElem?_cons_zero]; exact rfl
    case hor12 => simp only [List.getElem?_toArray, List.getElem?_cons_succ, List.getElem?_cons_zero]; exact rfl
    case stepr10 =>
      go_simp
      refine hK.out _ _ HS (fun HS => ?_)
      clear hK K
      try simp only [Act.put, List.setIfInBounds_toArray, List.set_cons_zero, List.set_cons_succ]
      refine wpAnyH_ready (rs := [12]) (by kernel_rfl) (by simp) ?_
      refine AllReadyH.cons (o := ?op12) ?hop12 (fun K hK => ?stepp12) AllReadyH.nil
      case hop12 => simp only [List.getElem?_toArray, List.getElem?_cons_succ, List.getElem?_cons_zero]; exact rfl
      go_simp
      refine (PB.out _).mono ?_
      intro e w112 hrow112
      obtain ⟨A12, N12, c12, rfl, hN12, hc12, ho12, hbt12, hb12⟩ := hrow112.out
      have hcv12 := run_str (P := Tryz.prog) (c := c12) 36 9 5 Tryz.underlying36 Tryz.underlying5 Tryz.underlying9 hbt12
      refine hK.out _ _ (Two2.step HS hb12) (fun HS => ?_)
      clear hK K
      try simp only [Act.put, List.setIfInBounds_toArray, List.set_cons_zero, List.set_cons_succ]
      refine wpAnyH_ready (rs := [13]) (by kernel_rfl) (by simp) ?_
      refine AllReadyH.cons (o := ?op13) ?hop13 (fun K hK => ?stepp13) AllReadyH.nil
      case hop13 => simp only [List.getElem?_toArray, List.getElem?_cons_succ, List.getElem?_cons_zero]; exact rfl
      go_simp
      refine hK.out _ _ HS (fun HS => ?_)
      clear hK K
      try simp only [Act.put, List.setIfInBounds_toArray, List.set_cons_zero, List.set_cons_succ]
      refine wpAnyH_take (i := 14) (oi := ?oix14) (v := ?vx14) ?hix14 (by kernel_rfl) (by kernel_rfl) (by kernel_rfl) ?hQx14 ?hyx14 HS ?restx14
      case hix14 => simp only [List.getElem?_toArray, List.getElem?_cons_succ, List.getElem?_cons_zero]; exact rfl
      case hQx14 => exact fun _ _ _ h => h
      case hyx14 =>
        refine Or.inl ⟨by rfl, ?_⟩
        intro wS hSw
        go_simp
        try with_reducible rfl
      try simp only [Act.put, List.setIfInBounds_toArray, List.set_cons_zero, List.set_cons_succ]
      refine wpAnyH_take (i := 16) (oi := ?oix16) (v := ?vx16) ?hix16 (by kernel_rfl) (by kernel_rfl) (by kernel_rfl) ?hQx16 ?hyx16 HS ?restx16
      case hix16 => simp only [List.getElem?_toArray, List.getElem?_cons_succ, List.getElem?_cons_zero]; exact rfl
      case hQx16 => exact fun _ _ _ h => h
      case hyx16 =>
        refine Or.inl ⟨by rfl, ?_⟩
        intro wS hSw
        go_simp
        try with_reducible rfl
      try simp only [Act.put, List.setIfInBounds_toArray, List.set_cons_zero, List.set_cons_succ]
      refine wpAnyH_take (i := 17) (oi := ?oix17) (v := ?vx17) ?hix17 (by kernel_rfl) (by kernel_rfl) (by kernel_rfl) ?hQx17 ?hyx17 HS ?restx17
      case hix17 => simp only [List.getElem?_toArray, List.getElem?_cons_succ, List.getElem?_cons_zero]; exact rfl
      case hQx17 => exact fun _ _ _ h => h
      case hyx17 =>
        refine Or.inl ⟨by rfl, ?_⟩
        intro wS hSw
        go_simp
        try with_reducible rfl
      try simp only [Act.put, List.setIfInBounds_toArray, List.set_cons_zero, List.set_cons_succ]
      refine wpAnyH_take (i := 18) (oi := ?oix18) (v := ?vx18) ?hix18 (by kernel_rfl) (by kernel_rfl) (by kernel_rfl) ?hQx18 ?hyx18 HS ?restx18
      case hix18 => simp only [List.getElem?_toArray, List.getElem?_cons_succ, List.getElem?_cons_zero]; exact rfl
      case hQx18 => exact fun _ _ _ h => h
      case hyx18 =>
        refine Or.inl ⟨by rfl, ?_⟩
        intro wS hSw
        go_simp
        try with_reducible rfl
      try simp only [Act.put, List.setIfInBounds_toArray, List.set_cons_zero, List.set_cons_succ]
      refine wpAnyH_take (i := 19) (oi := ?oix19) (v := ?vx19) ?hix19 (by kernel_rfl) (by kernel_rfl) (by kernel_rfl) ?hQx19 ?hyx19 HS ?restx19
      case hix19 => simp only [List.getElem?_toArray, List.getElem?_cons_succ, List.getElem?_cons_zero]; exact rfl
      case hQx19 => exact fun _ _ _ h => h
      case hyx19 =>
        refine Or.inl ⟨by rfl, ?_⟩
        intro wS hSw
        obtain ⟨p0, p1, p2, p3, -⟩ := Blk.v4 hSw.1
        obtain ⟨q0, q1, q2, q3, -⟩ := Blk.v4 hSw.2.1
        go_simp
        try with_reducible rfl
      try simp only [Act.put, List.setIfInBounds_toArray, List.set_cons_zero, List.set_cons_succ]
      refine wpAnyH_take (i := 20) (oi := ?oix20) (v := ?vx20) ?hix20 (by kernel_rfl) (by kernel_rfl) (by kernel_rfl) ?hQx20 ?hyx20 HS ?restx20
      case hix20 => simp only [List.getElem?_toArray, List.getElem?_cons_succ, List.getElem?_cons_zero]; exact rfl
      case hQx20 => exact fun _ _ _ h => h
      case hyx20 =>
        refine Or.inl ⟨by rfl, ?_⟩
        intro wS hSw
        obtain ⟨p0, p1, p2, p3, -⟩ := Blk.v4 hSw.1
        obtain ⟨q0, q1, q2, q3, -⟩ := Blk.v4 hSw.2.1
        go_simp
        try with_reducible rfl
      try simp only [Act.put, List.setIfInBounds_toArray, List.set_cons_zero, List.set_cons_succ]
      refine wpAnyH_take (i := 23) (oi := ?oix23) (v := ?vx23) ?hix23 (by kernel_rfl) (by kernel_rfl) (by kernel_rfl) ?hQx23 ?hyx23 HS ?restx23
      case hix23 => simp only [List.getElem?_toArray, List.getElem?_cons_succ, List.getElem?_cons_zero]; exact rfl
      case hQx23 => exact fun _ _ _ h => h
      case hyx23 =>
        refine Or.inl ⟨by rfl, ?_⟩
        intro wS hSw
        go_simp
        try with_reducible rfl
      try simp only [Act.put, List.setIfInBounds_toArray, List.set_cons_zero, List.set_cons_succ]
      refine wpAnyH_ready (rs := [21]) (by kernel_rfl) (by simp) ?_
      refine AllReadyH.cons (o := ?ox21) ?hox21 (fun K hK => ?stepx21) AllReadyH.nil
      case hox21 => simp only [List.getElem?_toArray, List.getElem?_cons_succ, List.getElem?_cons_zero]; exact rfl
      go_simp
      refine (OC.out _).mono ?_
      rintro e w121 ⟨rfl, hb121⟩
      refine hK.out _ _ (Two2.step HS hb121) (fun HS => ?_)
      clear hK K
      try simp only [Act.put, List.setIfInBounds_toArray, List.set_cons_zero, List.set_cons_succ]
      refine wpAnyH_take (i := 22) (oi := ?oix22) (v := ?vx22) ?hix22 (by kernel_rfl) (by kernel_rfl) (by kernel_rfl) ?hQx22 ?hyx22 HS ?restx22
      case hix22 => simp only [List.getElem?_toArray, List.getElem?_cons_succ, List.getElem?_cons_zero]; exact rfl
      case hQx22 => exact fun _ _ _ h => h
      case hyx22 =>
        refine Or.inl ⟨by rfl, ?_⟩
        intro wS hSw
        go_simp
        try with_reducible rfl
      try simp only [Act.put, List.setIfInBounds_toArray, List.set_cons_zero, List.set_cons_succ]
      refine wpAnyH_take (i := 24) (oi := ?oix24) (v := ?vx24) ?hix24 (by kernel_rfl) (by kernel_rfl) (by kernel_rfl) ?hQx24 ?hyx24 HS ?restx24
      case hix24 => simp only [List.getElem?_toArray, List.getElem?_cons_succ, List.getElem?_cons_zero]; exact rfl
      case hQx24 => exact fun _ _ _ h => h
      case hyx24 =>
        refine Or.inl ⟨by rfl, ?_⟩
        intro wS hSw
        go_simp
        try with_reducible rfl
      try simp only [Act.put, List.setIfInBounds_toArray, List.set_cons_zero, List.set_cons_succ]
      refine wpAnyH_take (i := 25) (oi := ?oix25) (v := ?vx25) ?hix25 (by kernel_rfl) (by kernel_rfl) (by kernel_rfl) ?hQx25 ?hyx25 HS ?restx25
      case hix25 => simp only [List.getElem?_toArray, List.getElem?_cons_succ, List.getElem?_cons_zero]; exact rfl
      case hQx25 => exact fun _ _ _ h => h
      case hyx25 =>
        refine Or.inl ⟨by rfl, ?_⟩
        intro wS hSw
        go_simp
        try with_reducible rfl
      try simp only [Act.put, List.setIfInBounds_toArray, List.set_cons_zero, List.set_cons_succ]
      refine wpAnyH_take (i := 26) (oi := ?oix26) (v := ?vx26) ?hix26 (by kernel_rfl) (by kernel_rfl) (by kernel_rfl) ?hQx26 ?hyx26 HS ?restx26
      case hix26 => simp only [List.getElem?_toArray, List.getElem?_cons_succ, List.getElem?_cons_zero]; exact rfl
      case hQx26 => exact fun _ _ _ h => h
      case hyx26 =>
        refine Or.inl ⟨by rfl, ?_⟩
        intro wS hSw
        go_simp
        try with_reducible rfl
      try simp only [Act.put, List.setIfInBounds_toArray, List.set_cons_zero, List.set_cons_succ]
      refine wpAnyH_done (by kernel_rfl) ?_ _
      have HB := hid HS.2.2
      clear HS H5
      go_wp2
      go_ret
      exact ⟨rfl, HB.out⟩
    case stepr12 =>
      go_simp
      refine (PB.out _).mono ?_
      intro e w112 hrow112
      obtain ⟨A12, N12, c12, rfl, hN12, hc12, ho12, hbt12, hb12⟩ := hrow112.out
      have hcv12 := run_str (P := Tryz.prog) (c := c12) 36 9 5 Tryz.underlying36 Tryz.underlying5 Tryz.underlying9 hbt12
      have hcv9b := run_str (P := Tryz.prog) (c := c9) 36 9 5 Tryz.underlying36 Tryz.underlying5 Tryz.underlying9 (hbt9.below hb12 (Nat.le_refl _))
      refine hK.out _ _ (Two2.step HS hb12) (fun HS => ?_)
      clear hK K
      try simp only [Act.put, List.setIfInBounds_toArray, List.set_cons_zero, List.set_cons_succ]
      refine wpAnyH_ready (rs := [10, 13]) (by kernel_rfl) (by simp) ?_
      refine (AllReadyH.cons (o := ?oq10) ?hoq10 (fun K hK => ?stepq10) (AllReadyH.cons (o := ?oq13) ?hoq13 (fun K hK => ?stepq13) AllReadyH.nil))
      case hoq10 => simp only [List.getElem?_toArray, List.getElem?_cons_succ, List.getElem?_cons_zero]; exact rfl
      case hoq13 => simp only [List.getElem?_toArray, List.getElem?_cons_succ, List.getElem?_cons_zero]; exact rfl
      case stepq10 =>
        go_simp
        refine hK.out _ _ HS (fun HS => ?_)
        clear hK K
        try simp only [Act.put, List.setIfInBounds_toArray, List.set_cons_zero, List.set_cons_succ]
        refine wpAnyH_ready (rs := [13]) (by kernel_rfl) (by simp) ?_
        refine AllReadyH.cons (o := ?oqa13) ?hoqa13 (fun K hK => ?stepqa13) AllReadyH.nil
        case hoqa13 => simp only [List.getElem?_toArray, List.getElem?_cons_succ, List.getElem?_cons_zero]; exact rfl
        go_simp
        refine hK.out _ _ HS (fun HS => ?_)
        clear hK K
        try simp only [Act.put, List.setIfInBounds_toArray, List.set_cons_zero, List.set_cons_succ]
        refine wpAnyH_take (i := 14) (oi := ?oiy14) (v := ?vy14) ?hiy14 (by kernel_rfl) (by kernel_rfl) (by kernel_rfl) ?hQy14 ?hyy14 HS ?resty14
        case hiy14 => simp only [List.getElem?_toArray, List.getElem?_cons_succ, List.getElem?_cons_zero]; exact rfl
        case hQy14 => exact fun _ _ _ h => h
        case hyy14 =>
          refine Or.inl ⟨by rfl, ?_⟩
          intro wS hSw
          go_simp
          try with_reducible rfl
        try simp only [Act.put, List.setIfInBounds_toArray, List.set_cons_zero, List.set_cons_succ]
        refine wpAnyH_take (i := 16) (oi := ?oiy16) (v := ?vy16) ?hiy16 (by kernel_rfl) (by kernel_rfl) (by kernel_rfl) ?hQy16 ?hyy16 HS ?resty16
        case hiy16 => simp only [List.getElem?_toArray, List.getElem?_cons_succ, List.getElem?_cons_zero]; exact rfl
        case hQy16 => exact fun _ _ _ h => h
        case hyy16 =>
          refine Or.inl ⟨by rfl, ?_⟩
          intro wS hSw
          go_simp
          try with_reducible rfl
        try simp only [Act.put, List.setIfInBounds_toArray, List.set_cons_zero, List.set_cons_succ]
        refine wpAnyH_take (i := 17) (oi := ?oiy17) (v := ?vy17) ?hiy17 (by kernel_rfl) (by kernel_rfl) (by kernel_rfl) ?hQy17 ?hyy17 HS ?resty17
        case hiy17 => simp only [List.getElem?_toArray, List.getElem?_cons_succ, List.getElem?_cons_zero]; exact rfl
        case hQy17 => exact fun _ _ _ h => h
        case hyy17 =>
          refine Or.inl ⟨by rfl, ?_⟩
          intro wS hSw
          go_simp
          try with_reducible rfl
        try simp only [Act.put, List.setIfInBounds_toArray, List.set_cons_zero, List.set_cons_succ]
        refine wpAnyH_take (i := 18) (oi := ?oiy18) (v := ?vy18) ?hiy18 (by kernel_rfl) (by kernel_rfl) (by kernel_rfl) ?hQy18 ?hyy18 HS ?resty18
        case hiy18 => simp only [List.getElem?_toArray, List.getElem?_cons_succ, List.getElem?_cons_zero]; exact rfl
        case hQy18 => exact fun _ _ _ h => h
        case hyy18 =>
          refine Or.inl ⟨by rfl, ?_⟩
          intro wS hSw
          go_simp
          try with_reducible rfl
        try simp only [Act.put, List.setIfInBounds_toArray, List.set_cons_zero, List.set_cons_succ]
        refine wpAnyH_take (i := 19) (oi := ?oiy19) (v := ?vy19) ?hiy19 (by kernel_rfl) (by kernel_rfl) (by kernel_rfl) ?hQy19 ?hyy19 HS ?resty19
        case hiy19 => simp only [List.getElem?_toArray, List.getElem?_cons_succ, List.getElem?_cons_zero]; exact rfl
        case hQy19 => exact fun _ _ _ h => h
        case hyy19 =>
          refine Or.inl ⟨by rfl, ?_⟩
          intro wS hSw
          obtain ⟨p0, p1, p2, p3, -⟩ := Blk.v4 hSw.1
          obtain ⟨q0, q1, q2, q3, -⟩ := Blk.v4 hSw.2.1
          go_simp
          try with_reducible rfl
        try simp only [Act.put, List.setIfInBounds_toArray, List.set_cons_zero, List.set_cons_succ]
        refine wpAnyH_take (i := 20) (oi := ?oiy20) (v := ?vy20) ?hiy20 (by kernel_rfl) (by kernel_rfl) (by kernel_rfl) ?hQy20 ?hyy20 HS ?resty20
        case hiy20 => simp only [List.getElem?_toArray, List.getElem?_cons_succ, List.getElem?_cons_zero]; exact rfl
        case hQy20 => exact fun _ _ _ h => h
        case hyy20 =>
          refine Or.inl ⟨by rfl, ?_⟩
          intro wS hSw
          obtain ⟨p0, p1, p2, p3, -⟩ := Blk.v4 hSw.1
          obtain ⟨q0, q1, q2, q3, -⟩ := Blk.v4 hSw.2.1
          go_simp
          try with_reducible rfl
        try simp only [Act.put, List.setIfInBounds_toArray, List.set_cons_zero, List.set_cons_succ]
        refine wpAnyH_take (i := 23) (oi := ?oiy23) (v := ?vy23) ?hiy23 (by kernel_rfl) (by kernel_rfl) (by kernel_rfl) ?hQy23 ?hyy23 HS ?resty23
        case hiy23 => simp only [List.getElem?_toArray, List.getElem?_cons_succ, List.getElem?_cons_zero]; exact rfl
        case hQy23 => exact fun _ _ _ h => h
        case hyy23 =>
          refine Or.inl ⟨by rfl, ?_⟩
          intro wS hSw
          go_simp
          try with_reducible rfl
        try simp only [Act.put, List.setIfInBounds_toArray, List.set_cons_zero, List.set_cons_succ]
        refine wpAnyH_ready (rs := [21]) (by kernel_rfl) (by simp) ?_
        refine AllReadyH.cons (o := ?oy21) ?hoy21 (fun K hK => ?stepy21) AllReadyH.nil
        case hoy21 => simp only [List.getElem?_toArray, List.getElem?_cons_succ, List.getElem?_cons_zero]; exact rfl
        go_simp
        refine (OC.out _).mono ?_
        rintro e w121 ⟨rfl, hb121⟩
        refine hK.out _ _ (Two2.step HS hb121) (fun HS => ?_)
        clear hK K
        try simp only [Act.put, List.setIfInBounds_toArray, List.set_cons_zero, List.set_cons_succ]
        refine wpAnyH_take (i := 22) (oi := ?oiy22) (v := ?vy22) ?hiy22 (by kernel_rfl) (by kernel_rfl) (by kernel_rfl) ?hQy22 ?hyy22 HS ?resty22
        case hiy22 => simp only [List.getElem?_toArray, List.getElem?_cons_succ, List.getElem?_cons_zero]; exact rfl
        case hQy22 => exact fun _ _ _ h => h
        case hyy22 =>
          refine Or.inl ⟨by rfl, ?_⟩
          intro wS hSw
          go_simp
          try with_reducible rfl
        try simp only [Act.put, List.setIfInBounds_toArray, List.set_cons_zero, List.set_cons_succ]
        refine wpAnyH_take (i := 24) (oi := ?oiy24) (v := ?vy24) ?hiy24 (by kernel_rfl) (by kernel_rfl) (by kernel_rfl) ?hQy24 ?hyy24 HS ?resty24
        case hiy24 => simp only [List.getElem?_toArray, List.getElem?_cons_succ, List.getElem?_cons_zero]; exact rfl
        case hQy24 => exact fun _ _ _ h => h
        case hyy24 =>
          refine Or.inl ⟨by rfl, ?_⟩
          intro wS hSw
          go_simp
          try with_reducible rfl
        try simp only [Act.put, List.setIfInBounds_toArray, List.set_cons_zero, List.set_cons_succ]
        refine wpAnyH_take (i := 25) (oi := ?oiy25) (v := ?vy25) ?hiy25 (by kernel_rfl) (by kernel_rfl) (by kernel_rfl) ?hQy25 ?hyy25 HS ?resty25
        case hiy25 => simp only [List.getElem?_toArray, List.getElem?_cons_succ, List.getElem?_cons_zero]; exact rfl
        case hQy25 => exact fun _ _ _ h => h
        case hyy25 =>
          refine Or.inl ⟨by rfl, ?_⟩
          intro wS hSw
          go_simp
          try with_reducible rfl
        try simp only [Act.put, List.setIfInBounds_toArray, List.set_cons_zero, List.set_cons_succ]
        refine wpAnyH_take (i := 26) (oi := ?oiy26) (v := ?vy26) ?hiy26 (by kernel_rfl) (by kernel_rfl) (by kernel_rfl) ?hQy26 ?hyy26 HS ?resty26
        case hiy26 => simp only [List.getElem?_toArray, List.getElem?_cons_succ, List.getElem?_cons_zero]; exact rfl
        case hQy26 => exact fun _ _ _ h => h
        case hyy26 =>
          refine Or.inl ⟨by rfl, ?_⟩
          intro wS hSw
          go_simp
          try with_reducible rfl
        try simp only [Act.put, List.setIfInBounds_toArray, List.set_cons_zero, List.set_cons_succ]
        refine wpAnyH_done (by kernel_rfl) ?_ _
        have HB := hid HS.2.2
        clear HS H5
        go_wp2
        go_ret
        exact ⟨rfl, HB.out⟩
      case stepq13 =>
        go_simp
        refine hK.out _ _ HS (fun HS => ?_)
        clear hK K
        try simp only [Act.put, List.setIfInBounds_toArray, List.set_cons_zero, List.set_cons_succ]
        refine wpAnyH_ready (rs := [10]) (by kernel_rfl) (by simp) ?_
        refine AllReadyH.cons (o := ?oqb10) ?hoqb10 (fun K hK => ?stepqb10) AllReadyH.nil
        case hoqb10 => simp only [List.getElem?_toArray, List.getElem?_cons_succ, List.getElem?_cons_zero]; exact rfl
        go_simp
        refine hK.out _ _ HS (fun HS => ?_)
        clear hK K
        try simp only [Act.put, List.setIfInBounds_toArray, List.set_cons_zero, List.set_cons_succ]
        refine wpAnyH_take (i := 14) (oi := ?oiz14) (v := ?vz14) ?hiz14 (by kernel_rfl) (by kernel_rfl) (by kernel_rfl) ?hQz14 ?hyz14 HS ?restz14
        case hiz14 => simp only [List.getElem?_toArray, List.getElem?_cons_succ, List.getElem?_cons_zero]; exact rfl
        case hQz14 => exact fun _ _ _ h => h
        case hyz14 =>
          refine Or.inl ⟨by rfl, ?_⟩
          intro wS hSw
          go_simp
          try with_reducible rfl
        try simp only [Act.put, List.setIfInBounds_toArray, List.set_cons_zero, List.set_cons_succ]
        refine wpAnyH_take (i := 16) (oi := ?oiz16) (v := ?vz16) ?hiz16 (by kernel_rfl) (by kernel_rfl) (by kernel_rfl) ?hQz16 ?hyz16 HS ?restz16
        case hiz16 => simp only [List.getElem?_toArray, List.getElem?_cons_succ, List.getElem?_cons_zero]; exact rfl
        case hQz16 => exact fun _ _ _ h => h
        case hyz16 =>
          refine Or.inl ⟨by rfl, ?_⟩
          intro wS hSw
          go_simp
          try with_reducible rfl
        try simp only [Act.put, List.setIfInBounds_toArray, List.set_cons_zero, List.set_cons_succ]
        refine wpAnyH_take (i := 17) (oi := ?oiz17) (v := ?vz17) ?hiz17 (by kernel_rfl) (by kernel_rfl) (by kernel_rfl) ?hQz17 ?hyz17 HS ?restz17
        case hiz17 => simp only [List.getElem?_toArray, List.getElem?_cons_succ, List.getElem?_cons_zero]; exact rfl
        case hQz17 => exact fun _ _ _ h => h
        case hyz17 =>
          refine Or.inl ⟨by rfl, ?_⟩
          intro wS hSw
          go_simp
          try with_reducible rfl
        try simp only [Act.put, List.setIfInBounds_toArray, List.set_cons_zero, List.set_cons_succ]
        refine wpAnyH_take (i := 18) (oi := ?oiz18) (v := ?vz18) ?hiz18 (by kernel_rfl) (by kernel_rfl) (by kernel_rfl) ?hQz18 ?hyz18 HS ?restz18
        case hiz18 => simp only [List.getElem?_toArray, List.getElem?_cons_succ, List.getElem?_cons_zero]; exact rfl
        case hQz18 => exact fun _ _ _ h => h
        case hyz18 =>
          refine Or.inl ⟨by rfl, ?_⟩
          intro wS hSw
          go_simp
          try with_reducible rfl
        try simp only [Act.put, List.setIfInBounds_toArray, List.set_cons_zero, List.set_cons_succ]
        refine wpAnyH_take (i := 19) (oi := ?oiz19) (v := ?vz19) ?hiz19 (by kernel_rfl) (by kernel_rfl) (by kernel_rfl) ?hQz19 ?hyz19 HS ?restz19
        case hiz19 => simp only [List.getElem?_toArray, List.getElem?_cons_succ, List.getElem?_cons_zero]; exact rfl
        case hQz19 => exact fun _ _ _ h => h
        case hyz19 =>
          refine Or.inl ⟨by rfl, ?_⟩
          intro wS hSw
          obtain ⟨p0, p1, p2, p3, -⟩ := Blk.v4 hSw.1
          obtain ⟨q0, q1, q2, q3, -⟩ := Blk.v4 hSw.2.1
          go_simp
          try with_reducible rfl
        try simp only [Act.put, List.setIfInBounds_toArray, List.set_cons_zero, List.set_cons_succ]
        refine wpAnyH_take (i := 20) (oi := ?oiz20) (v := ?vz20) ?hiz20 (by kernel_rfl) (by kernel_rfl) (by kernel_rfl) ?hQz20 ?hyz20 HS ?restz20
        case hiz20 => simp only [List.getElem?_toArray, List.getElem?_cons_succ, List.getElem?_cons_zero]; exact rfl
        case hQz20 => exact fun _ _ _ h => h
        case hyz20 =>
          refine Or.inl ⟨by rfl, ?_⟩
          intro wS hSw
          obtain ⟨p0, p1, p2, p3, -⟩ := Blk.v4 hSw.1
          obtain ⟨q0, q1, q2, q3, -⟩ := Blk.v4 hSw.2.1
          go_simp
          try with_reducible rfl
        try simp only [Act.put, List.setIfInBounds_toArray, List.set_cons_zero, List.set_cons_succ]
        refine wpAnyH_take (i := 23) (oi := ?oiz23) (v := ?vz23) ?hiz23 (by kernel_rfl) (by kernel_rfl) (by kernel_rfl) ?hQz23 ?hyz23 HS ?restz23
        case hiz23 => simp only [List.getElem?_toArray, List.getElem?_cons_succ, List.getElem?_cons_zero]; exact rfl
        case hQz23 => exact fun _ _ _ h => h
        case hyz23 =>
          refine Or.inl ⟨by rfl, ?_⟩
          intro wS hSw
          go_simp
          try with_reducible rfl
        try simp only [Act.put, List.setIfInBounds_toArray, List.set_cons_zero, List.set_cons_succ]
        refine wpAnyH_ready (rs := [21]) (by kernel_rfl) (by simp) ?_
        refine AllReadyH.cons (o := ?oz21) ?hoz21 (fun K hK => ?stepz21) AllReadyH.nil
        case hoz21 => simp only [List.getElem?_toArray, List.getElem?_cons_succ, List.getElem?_cons_zero]; exact rfl
        go_simp
        refine (OC.out _).mono ?_
        rintro e w121 ⟨rfl, hb121⟩
        refine hK.out _ _ (Two2.step HS hb121) (fun HS => ?_)
        clear hK K
        try simp only [Act.put, List.setIfInBounds_toArray, List.set_cons_zero, List.set_cons_succ]
        refine wpAnyH_take (i := 22) (oi := ?oiz22) (v := ?vz22) ?hiz22 (by kernel_rfl) (by kernel_rfl) (by kernel_rfl) ?hQz22 ?hyz22 HS ?restz22
        case hiz22 => simp only [List.getElem?_toArray, List.getElem?_cons_succ, List.getElem?_cons_zero]; exact rfl
        case hQz22 => exact fun _ _ _ h => h
        case hyz22 =>
          refine Or.inl ⟨by rfl, ?_⟩
          intro wS hSw
          go_simp
          try with_reducible rfl
        try simp only [Act.put, List.setIfInBounds_toArray, List.set_cons_zero, List.set_cons_succ]
        refine wpAnyH_take (i := 24) (oi := ?oiz24) (v := ?vz24) ?hiz24 (by kernel_rfl) (by kernel_rfl) (by kernel_rfl) ?hQz24 ?hyz24 HS ?restz24
        case hiz24 => simp only [List.getElem?_toArray, List.getElem?_cons_succ, List.getElem?_cons_zero]; exact rfl
        case hQz24 => exact fun _ _ _ h => h
        case hyz24 =>
          refine Or.inl ⟨by rfl, ?_⟩
          intro wS hSw
          go_simp
          try with_reducible rfl
        try simp only [Act.put, List.setIfInBounds_toArray, List.set_cons_zero, List.set_cons_succ]
        refine wpAnyH_take (i := 25) (oi := ?oiz25) (v := ?vz25) ?hiz25 (by kernel_rfl) (by kernel_rfl) (by kernel_rfl) ?hQz25 ?hyz25 HS ?restz25
        case hiz25 => simp only [List.getElem?_toArray, List.getElem?_cons_succ, List.getElem?_cons_zero]; exact rfl
        case hQz25 => exact fun _ _ _ h => h
        case hyz25 =>
          refine Or.inl ⟨by rfl, ?_⟩
          intro wS hSw
          go_simp
          try with_reducible rfl
        try simp only [Act.put, List.setIfInBounds_toArray, List.set_cons_zero, List.set_cons_succ]
        refine wpAnyH_take (i := 26) (oi := ?oiz26) (v := ?vz26) ?hiz26 (by kernel_rfl) (by kernel_rfl) (by kernel_rfl) ?hQz26 ?hyz26 HS ?restz26
        case hiz26 => simp only [List.getElem?_toArray, List.getElem?_cons_succ, List.getElem?_cons_zero]; exact rfl
        case hQz26 => exact fun _ _ _ h => h
        case hyz26 =>
          refine Or.inl ⟨by rfl, ?_⟩
          intro wS hSw
          go_simp
          try with_reducible rfl
        try simp only [Act.put, List.setIfInBounds_toArray, List.set_cons_zero, List.set_cons_succ]
        refine wpAnyH_done (by kernel_rfl) ?_ _
        have HB := hid HS.2.2
        clear HS H5
        go_wp2
        go_ret
        exact ⟨rfl, HB.out⟩
  · obtain ⟨h1, h2, h3⟩ := HI.out ha hb hab
    have heq := eq_no hab
    have s1 : ((str (vPrint a)).toList == (str (vPrint b)).toList) = false := by rw [str_list, str_list]; simpa using h1
    have s2 : ((str ([] ++ vPutR (vRt a))).toList == (str ([] ++ vPutR (vRt b))).toList) = false := by rw [str_list, str_list]; simpa using h2
    have s3 : (vOrd a b == 0) = false := by simpa using h3
    generalize vPrint a = sa at *
    generalize vPrint b = sb at *
    generalize [] ++ vPutR (vRt a) = la at *
    generalize [] ++ vPutR (vRt b) = lb at *
    generalize vOrd a b = oo at *
    have H5 := H3
    clear HI HZ RA RB h1 h2 h3 hab ha hb H3
    go_upto_region 6 with fail
    clear p0 p1 p2 p3 q0 q1 q2 q3 heq
    refine wp_region_held_drew (S := Two2 w w.heap.size a b) (by kernel_rfl) H5.drew (fun HS => ?_)
    refine wpAnyH_take (i := 0) (oi := ?oib0) (v := ?vb0) ?hib0 (by kernel_rfl) (by kernel_rfl) (by kernel_rfl) ?hQb0 ?hyb0 HS ?restb0
    case hib0 => simp only [List.getElem?_toArray, List.getElem?_cons_zero]; exact rfl
    case hQb0 => exact fun _ _ _ h => h
    case hyb0 =>
      refine Or.inl ⟨by rfl, ?_⟩
      intro wS hSw
      obtain ⟨p0, p1, p2, p3, -⟩ := Blk.v4 hSw.1
      obtain ⟨q0, q1, q2, q3, -⟩ := Blk.v4 hSw.2.1
      go_simp
      try with_reducible rfl
    try simp only [Act.put, List.setIfInBounds_toArray, List.set_cons_zero, List.set_cons_succ]
    refine wpAnyH_take (i := 2) (oi := ?oib2) (v := ?vb2) ?hib2 (by kernel_rfl) (by kernel_rfl) (by kernel_rfl) ?hQb2 ?hyb2 HS ?restb2
    case hib2 => simp only [List.getElem?_toArray, List.getElem?_cons_succ, List.getElem?_cons_zero]; exact rfl
    case hQb2 => exact fun _ _ _ h => h
    case hyb2 =>
      refine Or.inl ⟨by rfl, ?_⟩
      intro wS hSw
      obtain ⟨p0, p1, p2, p3, -⟩ := Blk.v4 hSw.1
      obtain ⟨q0, q1, q2, q3, -⟩ := Blk.v4 hSw.2.1
      go_simp
      try with_reducible rfl
    try simp only [Act.put, List.setIfInBounds_toArray, List.set_cons_zero, List.set_cons_succ]
    refine wpAnyH_take (i := 5) (oi := ?oib5) (v := ?vb5) ?hib5 (by kernel_rfl) (by kernel_rfl) (by kernel_rfl) ?hQb5 ?hyb5 HS ?restb5
    case hib5 => simp only [List.getElem?_toArray, List.getElem?_cons_succ, List.getElem?_cons_zero]; exact rfl
    case hQb5 => exact fun _ _ _ h => h
    case hyb5 =>
      refine Or.inl ⟨by rfl, ?_⟩
      intro wS hSw
      go_simp
      try with_reducible rfl
    try simp only [Act.put, List.setIfInBounds_toArray, List.set_cons_zero, List.set_cons_succ]
    refine wpAnyH_ready (rs := [1]) (by kernel_rfl) (by simp) ?_
    refine AllReadyH.cons (o := ?ob1) ?hob1 (fun K hK => ?stepb1) AllReadyH.nil
    case hob1 => simp only [List.getElem?_toArray, List.getElem?_cons_succ, List.getElem?_cons_zero]; exact rfl
    go_simp
    refine (CA.out _ (HW.out.below HS.2.2)).mono ?_
    rintro e w101 ⟨rfl, hb101⟩
    refine hK.out _ _ (Two2.step HS hb101) (fun HS => ?_)
    clear hK K
    try simp only [Act.put, List.setIfInBounds_toArray, List.set_cons_zero, List.set_cons_succ]
    refine wpAnyH_ready (rs := [3]) (by kernel_rfl) (by simp) ?_
    refine AllReadyH.cons (o := ?ob3) ?hob3 (fun K hK => ?stepb3) AllReadyH.nil
    case hob3 => simp only [List.getElem?_toArray, List.getElem?_cons_succ, List.getElem?_cons_zero]; exact rfl
    go_simp
    refine (CB.out _ (HW.out.below HS.2.2)).mono ?_
    rintro e w103 ⟨rfl, hb103⟩
    refine hK.out _ _ (Two2.step HS hb103) (fun HS => ?_)
    clear hK K
    try simp only [Act.put, List.setIfInBounds_toArray, List.set_cons_zero, List.set_cons_succ]
    refine wpAnyH_take (i := 4) (oi := ?oib4) (v := ?vb4) ?hib4 (by kernel_rfl) (by kernel_rfl) (by kernel_rfl) ?hQb4 ?hyb4 HS ?restb4
    case hib4 => simp only [List.getElem?_toArray, List.getElem?_cons_succ, List.getElem?_cons_zero]; exact rfl
    case hQb4 => exact fun _ _ _ h => h
    case hyb4 =>
      refine Or.inl ⟨by rfl, ?_⟩
      intro wS hSw
      go_simp
      try with_reducible rfl
    try simp only [Act.put, List.setIfInBounds_toArray, List.set_cons_zero, List.set_cons_succ]
    refine wpAnyH_take (i := 6) (oi := ?oib6) (v := ?vb6) ?hib6 (by kernel_rfl) (by kernel_rfl) (by kernel_rfl) ?hQb6 ?hyb6 HS ?restb6
    case hib6 => simp only [List.getElem?_toArray, List.getElem?_cons_succ, List.getElem?_cons_zero]; exact rfl
    case hQb6 => exact fun _ _ _ h => h
    case hyb6 =>
      refine Or.inl ⟨by rfl, ?_⟩
      intro wS hSw
      go_simp
      try with_reducible rfl
    try simp only [Act.put, List.setIfInBounds_toArray, List.set_cons_zero, List.set_cons_succ]
    refine wpAnyH_take (i := 7) (oi := ?oib7) (v := ?vb7) ?hib7 (by kernel_rfl) (by kernel_rfl) (by kernel_rfl) ?hQb7 ?hyb7 HS ?restb7
    case hib7 => simp only [List.getElem?_toArray, List.getElem?_cons_succ, List.getElem?_cons_zero]; exact rfl
    case hQb7 => exact fun _ _ _ h => h
    case hyb7 =>
      refine Or.inl ⟨by rfl, ?_⟩
      intro wS hSw
      go_simp
      try with_reducible rfl
    try simp only [Act.put, List.setIfInBounds_toArray, List.set_cons_zero, List.set_cons_succ]
    refine wpAnyH_take (i := 8) (oi := ?oib8) (v := ?vb8) ?hib8 (by kernel_rfl) (by kernel_rfl) (by kernel_rfl) ?hQb8 ?hyb8 HS ?restb8
    case hib8 => simp only [List.getElem?_toArray, List.getElem?_cons_succ, List.getElem?_cons_zero]; exact rfl
    case hQb8 => exact fun _ _ _ h => h
    case hyb8 =>
      refine Or.inl ⟨by rfl, ?_⟩
      intro wS hSw
      obtain ⟨p0, p1, p2, p3, -⟩ := Blk.v4 hSw.1
      obtain ⟨q0, q1, q2, q3, -⟩ := Blk.v4 hSw.2.1
      go_simp
      try with_reducible rfl
    try simp only [Act.put, List.setIfInBounds_toArray, List.set_cons_zero, List.set_cons_succ]
    refine wpAnyH_take (i := 11) (oi := ?oib11) (v := ?vb11) ?hib11 (by kernel_rfl) (by kernel_rfl) (by kernel_rfl) ?hQb11 ?hyb11 HS ?restb11
    case hib11 => simp only [List.getElem?_toArray, List.getElem?_cons_succ, List.getElem?_cons_zero]; exact rfl
    case hQb11 => exact fun _ _ _ h => h
    case hyb11 =>
      refine Or.inl ⟨by rfl, ?_⟩
      intro wS hSw
      obtain ⟨p0, p1, p2, p3, -⟩ := Blk.v4 hSw.1
      obtain ⟨q0, q1, q2, q3, -⟩ := Blk.v4 hSw.2.1
      go_simp
      try with_reducible rfl
    try simp only [Act.put, List.setIfInBounds_toArray, List.set_cons_zero, List.set_cons_succ]
    refine wpAnyH_take (i := 15) (oi := ?oib15) (v := ?vb15) ?hib15 (by kernel_rfl) (by kernel_rfl) (by kernel_rfl) ?hQb15 ?hyb15 HS ?restb15
    case hib15 => simp only [List.getElem?_toArray, List.getElem?_cons_succ, List.getElem?_cons_zero]; exact rfl
    case hQb15 => exact fun _ _ _ h => h
    case hyb15 =>
      refine Or.inl ⟨by rfl, ?_⟩
      intro wS hSw
      go_simp
      try with_reducible rfl
    try simp only [Act.put, List.setIfInBounds_toArray, List.set_cons_zero, List.set_cons_succ]
    refine wpAnyH_ready (rs := [9]) (by kernel_rfl) (by simp) ?_
    refine AllReadyH.cons (o := ?ob9) ?hob9 (fun K hK => ?stepb9) AllReadyH.nil
    case hob9 => simp only [List.getElem?_toArray, List.getElem?_cons_succ, List.getElem?_cons_zero]; exact rfl
    go_simp
    refine (PA.out _).mono ?_
    intro e w109 hrow109
    obtain ⟨A9, N9, c9, rfl, hN9, hc9, ho9, hbt9, hb9⟩ := hrow109.out
    have hcv9 := run_str (P := Tryz.prog) (c := c9) 36 9 5 Tryz.underlying36 Tryz.underlying5 Tryz.underlying9 hbt9
    refine hK.out _ _ (Two2.step HS hb9) (fun HS => ?_)
    clear hK K
    try simp only [Act.put, List.setIfInBounds_toArray, List.set_cons_zero, List.set_cons_succ]
    refine wpAnyH_ready (rs := [10, 12]) (by kernel_rfl) (by simp) ?_
    refine (AllReadyH.cons (o := ?obr10) ?hobr10 (fun K hK => ?stepbr10) (AllReadyH.cons (o := ?obr12) ?hobr12 (fun K hK => ?stepbr12) AllReadyH.nil))
    case hobr10 => simp only [List.getElem?_toArray, List.getElem?_cons_succ, List.getElem?_cons_zero]; exact rfl
    case hobr12 => simp only [List.getElem?_toArray, List.getElem?_cons_succ, List.getElem?_cons_zero]; exact rfl
    case stepbr10 =>
      go_simp
      refine hK.out _ _ HS (fun HS => ?_)
      clear hK K
      try simp only [Act.put, List.setIfInBounds_toArray, List.set_cons_zero, List.set_cons_succ]
      refine wpAnyH_ready (rs := [12]) (by kernel_rfl) (by simp) ?_
      refine AllReadyH.cons (o := ?obp12) ?hobp12 (fun K hK => ?stepbp12) AllReadyH.nil
      case hobp12 => simp only [List.getElem?_toArray, List.getElem?_cons_succ, List.getElem?_cons_zero]; exact rfl
      go_simp
      refine (PB.out _).mono ?_
      intro e w112 hrow112
      obtain ⟨A12, N12, c12, rfl, hN12, hc12, ho12, hbt12, hb12⟩ := hrow112.out
      have hcv12 := run_str (P := Tryz.prog) (c := c12) 36 9 5 Tryz.underlying36 Tryz.underlying5 Tryz.underlying9 hbt12
      refine hK.out _ _ (Two2.step HS hb12) (fun HS => ?_)
      clear hK K
      try simp only [Act.put, List.setIfInBounds_toArray, List.set_cons_zero, List.set_cons_succ]
      refine wpAnyH_ready (rs := [13]) (by kernel_rfl) (by simp) ?_
      refine AllReadyH.cons (o := ?obp13) ?hobp13 (fun K hK => ?stepbp13) AllReadyH.nil
      case hobp13 => simp only [List.getElem?_toArray, List.getElem?_cons_succ, List.getElem?_cons_zero]; exact rfl
      go_simp
      refine hK.out _ _ HS (fun HS => ?_)
      clear hK K
      try simp only [Act.put, List.setIfInBounds_toArray, List.set_cons_zero, List.set_cons_succ]
      refine wpAnyH_take (i := 14) (oi := ?oibx14) (v := ?vbx14) ?hibx14 (by kernel_rfl) (by kernel_rfl) (by kernel_rfl) ?hQbx14 ?hybx14 HS ?restbx14
      case hibx14 => simp only [List.getElem?_toArray, List.getElem?_cons_succ, List.getElem?_cons_zero]; exact rfl
      case hQbx14 => exact fun _ _ _ h => h
      case hybx14 =>
        refine Or.inl ⟨by rfl, ?_⟩
        intro wS hSw
        go_simp
        try with_reducible rfl
      try simp only [Act.put, List.setIfInBounds_toArray, List.set_cons_zero, List.set_cons_succ]
      refine wpAnyH_take (i := 16) (oi := ?oibx16) (v := ?vbx16) ?hibx16 (by kernel_rfl) (by kernel_rfl) (by kernel_rfl) ?hQbx16 ?hybx16 HS ?restbx16
      case hibx16 => simp only [List.getElem?_toArray, List.getElem?_cons_succ, List.getElem?_cons_zero]; exact rfl
      case hQbx16 => exact fun _ _ _ h => h
      case hybx16 =>
        refine Or.inl ⟨by rfl, ?_⟩
        intro wS hSw
        go_simp
        try with_reducible rfl
      try simp only [Act.put, List.setIfInBounds_toArray, List.set_cons_zero, List.set_cons_succ]
      refine wpAnyH_take (i := 17) (oi := ?oibx17) (v := ?vbx17) ?hibx17 (by kernel_rfl) (by kernel_rfl) (by kernel_rfl) ?hQbx17 ?hybx17 HS ?restbx17
      case hibx17 => simp only [List.getElem?_toArray, List.getElem?_cons_succ, List.getElem?_cons_zero]; exact rfl
      case hQbx17 => exact fun _ _ _ h => h
      case hybx17 =>
        refine Or.inl ⟨by rfl, ?_⟩
        intro wS hSw
        go_simp
        try with_reducible rfl
      try simp only [Act.put, List.setIfInBounds_toArray, List.set_cons_zero, List.set_cons_succ]
      refine wpAnyH_take (i := 18) (oi := ?oibx18) (v := ?vbx18) ?hibx18 (by kernel_rfl) (by kernel_rfl) (by kernel_rfl) ?hQbx18 ?hybx18 HS ?restbx18
      case hibx18 => simp only [List.getElem?_toArray, List.getElem?_cons_succ, List.getElem?_cons_zero]; exact rfl
      case hQbx18 => exact fun _ _ _ h => h
      case hybx18 =>
        refine Or.inl ⟨by rfl, ?_⟩
        intro wS hSw
        go_simp
        try with_reducible rfl
      try simp only [Act.put, List.setIfInBounds_toArray, List.set_cons_zero, List.set_cons_succ]
      refine wpAnyH_take (i := 19) (oi := ?oibx19) (v := ?vbx19) ?hibx19 (by kernel_rfl) (by kernel_rfl) (by kernel_rfl) ?hQbx19 ?hybx19 HS ?restbx19
      case hibx19 => simp only [List.getElem?_toArray, List.getElem?_cons_succ, List.getElem?_cons_zero]; exact rfl
      case hQbx19 => exact fun _ _ _ h => h
      case hybx19 =>
        refine Or.inl ⟨by rfl, ?_⟩
        intro wS hSw
        obtain ⟨p0, p1, p2, p3, -⟩ := Blk.v4 hSw.1
        obtain ⟨q0, q1, q2, q3, -⟩ := Blk.v4 hSw.2.1
        go_simp
        try with_reducible rfl
      try simp only [Act.put, List.setIfInBounds_toArray, List.set_cons_zero, List.set_cons_succ]
      refine wpAnyH_take (i := 20) (oi := ?oibx20) (v := ?vbx20) ?hibx20 (by kernel_rfl) (by kernel_rfl) (by kernel_rfl) ?hQbx20 ?hybx20 HS ?restbx20
      case hibx20 => simp only [List.getElem?_toArray, List.getElem?_cons_succ, List.getElem?_cons_zero]; exact rfl
      case hQbx20 => exact fun _ _ _ h => h
      case hybx20 =>
        refine Or.inl ⟨by rfl, ?_⟩
        intro wS hSw
        obtain ⟨p0, p1, p2, p3, -⟩ := Blk.v4 hSw.1
        obtain ⟨q0, q1, q2, q3, -⟩ := Blk.v4 hSw.2.1
        go_simp
        try with_reducible rfl
      try simp only [Act.put, List.setIfInBounds_toArray, List.set_cons_zero, List.set_cons_succ]
      refine wpAnyH_take (i := 23) (oi := ?oibx23) (v := ?vbx23) ?hibx23 (by kernel_rfl) (by kernel_rfl) (by kernel_rfl) ?hQbx23 ?hybx23 HS ?restbx23
      case hibx23 => simp only [List.getElem?_toArray, List.getElem?_cons_succ, List.getElem?_cons_zero]; exact rfl
      case hQbx23 => exact fun _ _ _ h => h
      case hybx23 =>
        refine Or.inl ⟨by rfl, ?_⟩
        intro wS hSw
        go_simp
        try with_reducible rfl
      try simp only [Act.put, List.setIfInBounds_toArray, List.set_cons_zero, List.set_cons_succ]
      refine wpAnyH_ready (rs := [21]) (by kernel_rfl) (by simp) ?_
      refine AllReadyH.cons (o := ?obx21) ?hobx21 (fun K hK => ?stepbx21) AllReadyH.nil
      case hobx21 => simp only [List.getElem?_toArray, List.getElem?_cons_succ, List.getElem?_cons_zero]; exact rfl
      go_simp
      refine (OC.out _).mono ?_
      rintro e w121 ⟨rfl, hb121⟩
      refine hK.out _ _ (Two2.step HS hb121) (fun HS => ?_)
      clear hK K
      try simp only [Act.put, List.setIfInBounds_toArray, List.set_cons_zero, List.set_cons_succ]
      refine wpAnyH_take (i := 22) (oi := ?oibx22) (v := ?vbx22) ?hibx22 (by kernel_rfl) (by kernel_rfl) (by kernel_rfl) ?hQbx22 ?hybx22 HS ?restbx22
      case hibx22 => simp only [List.getElem?_toArray, List.getElem?_cons_succ, List.getElem?_cons_zero]; exact rfl
      case hQbx22 => exact fun _ _ _ h => h
      case hybx22 =>
        refine Or.inl ⟨by rfl, ?_⟩
        intro wS hSw
        go_simp
        try with_reducible rfl
      try simp only [Act.put, List.setIfInBounds_toArray, List.set_cons_zero, List.set_cons_succ]
      refine wpAnyH_take (i := 24) (oi := ?oibx24) (v := ?vbx24) ?hibx24 (by kernel_rfl) (by kernel_rfl) (by kernel_rfl) ?hQbx24 ?hybx24 HS ?restbx24
      case hibx24 => simp only [List.getElem?_toArray, List.getElem?_cons_succ, List.getElem?_cons_zero]; exact rfl
      case hQbx24 => exact fun _ _ _ h => h
      case hybx24 =>
        refine Or.inl ⟨by rfl, ?_⟩
        intro wS hSw
        go_simp
        try with_reducible rfl
      try simp only [Act.put, List.setIfInBounds_toArray, List.set_cons_zero, List.set_cons_succ]
      refine wpAnyH_take (i := 25) (oi := ?oibx25) (v := ?vbx25) ?hibx25 (by kernel_rfl) (by kernel_rfl) (by kernel_rfl) ?hQbx25 ?hybx25 HS ?restbx25
      case hibx25 => simp only [List.getElem?_toArray, List.getElem?_cons_succ, List.getElem?_cons_zero]; exact rfl
      case hQbx25 => exact fun _ _ _ h => h
      case hybx25 =>
        refine Or.inl ⟨by rfl, ?_⟩
        intro wS hSw
        go_simp
        try with_reducible rfl
      try simp only [Act.put, List.setIfInBounds_toArray, List.set_cons_zero, List.set_cons_succ]
      refine wpAnyH_take (i := 26) (oi := ?oibx26) (v := ?vbx26) ?hibx26 (by kernel_rfl) (by kernel_rfl) (by kernel_rfl) ?hQbx26 ?hybx26 HS ?restbx26
      case hibx26 => simp only [List.getElem?_toArray, List.getElem?_cons_succ, List.getElem?_cons_zero]; exact rfl
      case hQbx26 => exact fun _ _ _ h => h
      case hybx26 =>
        refine Or.inl ⟨by rfl, ?_⟩
        intro wS hSw
        go_simp
        try with_reducible rfl
      try simp only [Act.put, List.setIfInBounds_toArray, List.set_cons_zero, List.set_cons_succ]
      refine wpAnyH_done (by kernel_rfl) ?_ _
      have HB := hid HS.2.2
      clear HS H5
      go_wp2
      go_ret
      exact ⟨rfl, HB.out⟩
    case stepbr12 =>
      go_simp
      refine (PB.out _).mono ?_
      intro e w112 hrow112
      obtain ⟨A12, N12, c12, rfl, hN12, hc12, ho12, hbt12, hb12⟩ := hrow112.out
      have hcv12 := run_str (P := Tryz.prog) (c := c12) 36 9 5 Tryz.underlying36 Tryz.underlying5 Tryz.underlying9 hbt12
      have hcv9b := run_str (P := Tryz.prog) (c := c9) 36 9 5 Tryz.underlying36 Tryz.underlying5 Tryz.underlying9 (hbt9.below hb12 (Nat.le_refl _))
      refine hK.out _ _ (Two2.step HS hb12) (fun HS => ?_)
      clear hK K
      try simp only [Act.put, List.setIfInBounds_toArray, List.set_cons_zero, List.set_cons_succ]
      refine wpAnyH_ready (rs := [10, 13]) (by kernel_rfl) (by simp) ?_
      refine (AllReadyH.cons (o := ?obq10) ?hobq10 (fun K hK => ?stepbq10) (AllReadyH.cons (o := ?obq13) ?hobq13 (fun K hK => ?stepbq13) AllReadyH.nil))
      case hobq10 => simp only [List.getElem?_toArray, List.getElem?_cons_succ, List.getElem?_cons_zero]; exact rfl
      case hobq13 => simp only [List.getElem?_toArray, List.getElem?_cons_succ, List.getElem?_cons_zero]; exact rfl
      case stepbq10 =>
        go_simp
        refine hK.out _ _ HS (fun HS => ?_)
        clear hK K
        try simp only [Act.put, List.setIfInBounds_toArray, List.set_cons_zero, List.set_cons_succ]
        refine wpAnyH_ready (rs := [13]) (by kernel_rfl) (by simp) ?_
        refine AllReadyH.cons (o := ?obqa13) ?hobqa13 (fun K hK => ?stepbqa13) AllReadyH.nil
        case hobqa13 => simp only [List.getElem?_toArray, List.getElem?_cons_succ, List.getElem?_cons_zero]; exact rfl
        go_simp
        refine hK.out _ _ HS (fun HS => ?_)
        clear hK K
        try simp only [Act.put, List.setIfInBounds_toArray, List.set_cons_zero, List.set_cons_succ]
        refine wpAnyH_take (i := 14) (oi := ?oiby14) (v := ?vby14) ?hiby14 (by kernel_rfl) (by kernel_rfl) (by kernel_rfl) ?hQby14 ?hyby14 HS ?restby14
        case hiby14 => simp only [List.getElem?_toArray, List.getElem?_cons_succ, List.getElem?_cons_zero]; exact rfl
        case hQby14 => exact fun _ _ _ h => h
        case hyby14 =>
          refine Or.inl ⟨by rfl, ?_⟩
          intro wS hSw
          go_simp
          try with_reducible rfl
        try simp only [Act.put, List.setIfInBounds_toArray, List.set_cons_zero, List.set_cons_succ]
        refine wpAnyH_take (i := 16) (oi := ?oiby16) (v := ?vby16) ?hiby16 (by kernel_rfl) (by kernel_rfl) (by kernel_rfl) ?hQby16 ?hyby16 HS ?restby16
        case hiby16 => simp only [List.getElem?_toArray, List.getElem?_cons_succ, List.getElem?_cons_zero]; exact rfl
        case hQby16 => exact fun _ _ _ h => h
        case hyby16 =>
          refine Or.inl ⟨by rfl, ?_⟩
          intro wS hSw
          go_simp
          try with_reducible rfl
        try simp only [Act.put, List.setIfInBounds_toArray, List.set_cons_zero, List.set_cons_succ]
        refine wpAnyH_take (i := 17) (oi := ?oiby17) (v := ?vby17) ?hiby17 (by kernel_rfl) (by kernel_rfl) (by kernel_rfl) ?hQby17 ?hyby17 HS ?restby17
        case hiby17 => simp only [List.getElem?_toArray, List.getElem?_cons_succ, List.getElem?_cons_zero]; exact rfl
        case hQby17 => exact fun _ _ _ h => h
        case hyby17 =>
          refine Or.inl ⟨by rfl, ?_⟩
          intro wS hSw
          go_simp
          try with_reducible rfl
        try simp only [Act.put, List.setIfInBounds_toArray, List.set_cons_zero, List.set_cons_succ]
        refine wpAnyH_take (i := 18) (oi := ?oiby18) (v := ?vby18) ?hiby18 (by kernel_rfl) (by kernel_rfl) (by kernel_rfl) ?hQby18 ?hyby18 HS ?restby18
        case hiby18 => simp only [List.getElem?_toArray, List.getElem?_cons_succ, List.getElem?_cons_zero]; exact rfl
        case hQby18 => exact fun _ _ _ h => h
        case hyby18 =>
          refine Or.inl ⟨by rfl, ?_⟩
          intro wS hSw
          go_simp
          try with_reducible rfl
        try simp only [Act.put, List.setIfInBounds_toArray, List.set_cons_zero, List.set_cons_succ]
        refine wpAnyH_take (i := 19) (oi := ?oiby19) (v := ?vby19) ?hiby19 (by kernel_rfl) (by kernel_rfl) (by kernel_rfl) ?hQby19 ?hyby19 HS ?restby19
        case hiby19 => simp only [List.getElem?_toArray, List.getElem?_cons_succ, List.getElem?_cons_zero]; exact rfl
        case hQby19 => exact fun _ _ _ h => h
        case hyby19 =>
          refine Or.inl ⟨by rfl, ?_⟩
          intro wS hSw
          obtain ⟨p0, p1, p2, p3, -⟩ := Blk.v4 hSw.1
          obtain ⟨q0, q1, q2, q3, -⟩ := Blk.v4 hSw.2.1
          go_simp
          try with_reducible rfl
        try simp only [Act.put, List.setIfInBounds_toArray, List.set_cons_zero, List.set_cons_succ]
        refine wpAnyH_take (i := 20) (oi := ?oiby20) (v := ?vby20) ?hiby20 (by kernel_rfl) (by kernel_rfl) (by kernel_rfl) ?hQby20 ?hyby20 HS ?restby20
        case hiby20 => simp only [List.getElem?_toArray, List.getElem?_cons_succ, List.getElem?_cons_zero]; exact rfl
        case hQby20 => exact fun _ _ _ h => h
        case hyby20 =>
          refine Or.inl ⟨by rfl, ?_⟩
          intro wS hSw
          obtain ⟨p0, p1, p2, p3, -⟩ := Blk.v4 hSw.1
          obtain ⟨q0, q1, q2, q3, -⟩ := Blk.v4 hSw.2.1
          go_simp
          try with_reducible rfl
        try simp only [Act.put, List.setIfInBounds_toArray, List.set_cons_zero, List.set_cons_succ]
        refine wpAnyH_take (i := 23) (oi := ?oiby23) (v := ?vby23) ?hiby23 (by kernel_rfl) (by kernel_rfl) (by kernel_rfl) ?hQby23 ?hyby23 HS ?restby23
        case hiby23 => simp only [List.getElem?_toArray, List.getElem?_cons_succ, List.getElem?_cons_zero]; exact rfl
        case hQby23 => exact fun _ _ _ h => h
        case hyby23 =>
          refine Or.inl ⟨by rfl, ?_⟩
          intro wS hSw
          go_simp
          try with_reducible rfl
        try simp only [Act.put, List.setIfInBounds_toArray, List.set_cons_zero, List.set_cons_succ]
        refine wpAnyH_ready (rs := [21]) (by kernel_rfl) (by simp) ?_
        refine AllReadyH.cons (o := ?oby21) ?hoby21 (fun K hK => ?stepby21) AllReadyH.nil
        case hoby21 => simp only [List.getElem?_toArray, List.getElem?_cons_succ, List.getElem?_cons_zero]; exact rfl
        go_simp
        refine (OC.out _).mono ?_
        rintro e w121 ⟨rfl, hb121⟩
        refine hK.out _ _ (Two2.step HS hb121) (fun HS => ?_)
        clear hK K
        try simp only [Act.put, List.setIfInBounds_toArray, List.set_cons_zero, List.set_cons_succ]
        refine wpAnyH_take (i := 22) (oi := ?oiby22) (v := ?vby22) ?hiby22 (by kernel_rfl) (by kernel_rfl) (by kernel_rfl) ?hQby22 ?hyby22 HS ?restby22
        case hiby22 => simp only [List.getElem?_toArray, List.getElem?_cons_succ, List.getElem?_cons_zero]; exact rfl
        case hQby22 => exact fun _ _ _ h => h
        case hyby22 =>
          refine Or.inl ⟨by rfl, ?_⟩
          intro wS hSw
          go_simp
          try with_reducible rfl
        try simp only [Act.put, List.setIfInBounds_toArray, List.set_cons_zero, List.set_cons_succ]
        refine wpAnyH_take (i := 24) (oi := ?oiby24) (v := ?vby24) ?hiby24 (by kernel_rfl) (by kernel_rfl) (by kernel_rfl) ?hQby24 ?hyby24 HS ?restby24
        case hiby24 => simp only [List.getElem?_toArray, List.getElem?_cons_succ, List.getElem?_cons_zero]; exact rfl
        case hQby24 => exact fun _ _ _ h => h
        case hyby24 =>
          refine Or.inl ⟨by rfl, ?_⟩
          intro wS hSw
          go_simp
          try with_reducible rfl
        try simp only [Act.put, List.setIfInBounds_toArray, List.set_cons_zero, List.set_cons_succ]
        refine wpAnyH_take (i := 25) (oi := ?oiby25) (v := ?vby25) ?hiby25 (by kernel_rfl) (by kernel_rfl) (by kernel_rfl) ?hQby25 ?hyby25 HS ?restby25
        case hiby25 => simp only [List.getElem?_toArray, List.getElem?_cons_succ, List.getElem?_cons_zero]; exact rfl
        case hQby25 => exact fun _ _ _ h => h
        case hyby25 =>
          refine Or.inl ⟨by rfl, ?_⟩
          intro wS hSw
          go_simp
          try with_reducible rfl
        try simp only [Act.put, List.setIfInBounds_toArray, List.set_cons_zero, List.set_cons_succ]
        refine wpAnyH_take (i := 26) (oi := ?oiby26) (v := ?vby26) ?hiby26 (by kernel_rfl) (by kernel_rfl) (by kernel_rfl) ?hQby26 ?hyby26 HS ?restby26
        case hiby26 => simp only [List.getElem?_toArray, List.getElem?_cons_succ, List.getElem?_cons_zero]; exact rfl
        case hQby26 => exact fun _ _ _ h => h
        case hyby26 =>
          refine Or.inl ⟨by rfl, ?_⟩
          intro wS hSw
          go_simp
          try with_reducible rfl
        try simp only [Act.put, List.setIfInBounds_toArray, List.set_cons_zero, List.set_cons_succ]
        refine wpAnyH_done (by kernel_rfl) ?_ _
        have HB := hid HS.2.2
        clear HS H5
        go_wp2
        go_ret
        exact ⟨rfl, HB.out⟩
      case stepbq13 =>
        go_simp
        refine hK.out _ _ HS (fun HS => ?_)
        clear hK K
        try simp only [Act.put, List.setIfInBounds_toArray, List.set_cons_zero, List.set_cons_succ]
        refine wpAnyH_ready (rs := [10]) (by kernel_rfl) (by simp) ?_
        refine AllReadyH.cons (o := ?obqb10) ?hobqb10 (fun K hK => ?stepbqb10) AllReadyH.nil
        case hobqb10 => simp only [List.getElem?_toArray, List.getElem?_cons_succ, List.getElem?_cons_zero]; exact rfl
        go_simp
        refine hK.out _ _ HS (fun HS => ?_)
        clear hK K
        try simp only [Act.put, List.setIfInBounds_toArray, List.set_cons_zero, List.set_cons_succ]
        refine wpAnyH_take (i := 14) (oi := ?oibz14) (v := ?vbz14) ?hibz14 (by kernel_rfl) (by kernel_rfl) (by kernel_rfl) ?hQbz14 ?hybz14 HS ?restbz14
        case hibz14 => simp only [List.getElem?_toArray, List.getElem?_cons_succ, List.getElem?_cons_zero]; exact rfl
        case hQbz14 => exact fun _ _ _ h => h
        case hybz14 =>
          refine Or.inl ⟨by rfl, ?_⟩
          intro wS hSw
          go_simp
          try with_reducible rfl
        try simp only [Act.put, List.setIfInBounds_toArray, List.set_cons_zero, List.set_cons_succ]
        refine wpAnyH_take (i := 16) (oi := ?oibz16) (v := ?vbz16) ?hibz16 (by kernel_rfl) (by kernel_rfl) (by kernel_rfl) ?hQbz16 ?hybz16 HS ?restbz16
        case hibz16 => simp only [List.getElem?_toArray, List.getElem?_cons_succ, List.getElem?_cons_zero]; exact rfl
        case hQbz16 => exact fun _ _ _ h => h
        case hybz16 =>
          refine Or.inl ⟨by rfl, ?_⟩
          intro wS hSw
          go_simp
          try with_reducible rfl
        try simp only [Act.put, List.setIfInBounds_toArray, List.set_cons_zero, List.set_cons_succ]
        refine wpAnyH_take (i := 17) (oi := ?oibz17) (v := ?vbz17) ?hibz17 (by kernel_rfl) (by kernel_rfl) (by kernel_rfl) ?hQbz17 ?hybz17 HS ?restbz17
        case hibz17 => simp only [List.getElem?_toArray, List.getElem?_cons_succ, List.getElem?_cons_zero]; exact rfl
        case hQbz17 => exact fun _ _ _ h => h
        case hybz17 =>
          refine Or.inl ⟨by rfl, ?_⟩
          intro wS hSw
          go_simp
          try with_reducible rfl
        try simp only [Act.put, List.setIfInBounds_toArray, List.set_cons_zero, List.set_cons_succ]
        refine wpAnyH_take (i := 18) (oi := ?oibz18) (v := ?vbz18) ?hibz18 (by kernel_rfl) (by kernel_rfl) (by kernel_rfl) ?hQbz18 ?hybz18 HS ?restbz18
        case hibz18 => simp only [List.getElem?_toArray, List.getElem?_cons_succ, List.getElem?_cons_zero]; exact rfl
        case hQbz18 => exact fun _ _ _ h => h
        case hybz18 =>
          refine Or.inl ⟨by rfl, ?_⟩
          intro wS hSw
          go_simp
          try with_reducible rfl
        try simp only [Act.put, List.setIfInBounds_toArray, List.set_cons_zero, List.set_cons_succ]
        refine wpAnyH_take (i := 19) (oi := ?oibz19) (v := ?vbz19) ?hibz19 (by kernel_rfl) (by kernel_rfl) (by kernel_rfl) ?hQbz19 ?hybz19 HS ?restbz19
        case hibz19 => simp only [List.getElem?_toArray, List.getElem?_cons_succ, List.getElem?_cons_zero]; exact rfl
        case hQbz19 => exact fun _ _ _ h => h
        case hybz19 =>
          refine Or.inl ⟨by rfl, ?_⟩
          intro wS hSw
          obtain ⟨p0, p1, p2, p3, -⟩ := Blk.v4 hSw.1
          obtain ⟨q0, q1, q2, q3, -⟩ := Blk.v4 hSw.2.1
          go_simp
          try with_reducible rfl
        try simp only [Act.put, List.setIfInBounds_toArray, List.set_cons_zero, List.set_cons_succ]
        refine wpAnyH_take (i := 20) (oi := ?oibz20) (v := ?vbz20) ?hibz20 (by kernel_rfl) (by kernel_rfl) (by kernel_rfl) ?hQbz20 ?hybz20 HS ?restbz20
        case hibz20 => simp only [List.getElem?_toArray, List.getElem?_cons_succ, List.getElem?_cons_zero]; exact rfl
        case hQbz20 => exact fun _ _ _ h => h
        case hybz20 =>
          refine Or.inl ⟨by rfl, ?_⟩
          intro wS hSw
          obtain ⟨p0, p1, p2, p3, -⟩ := Blk.v4 hSw.1
          obtain ⟨q0, q1, q2, q3, -⟩ := Blk.v4 hSw.2.1
          go_simp
          try with_reducible rfl
        try simp only [Act.put, List.setIfInBounds_toArray, List.set_cons_zero, List.set_cons_succ]
        refine wpAnyH_take (i := 23) (oi := ?oibz23) (v := ?vbz23) ?hibz23 (by kernel_rfl) (by kernel_rfl) (by kernel_rfl) ?hQbz23 ?hybz23 HS ?restbz23
        case hibz23 => simp only [List.getElem?_toArray, List.getElem?_cons_succ, List.getElem?_cons_zero]; exact rfl
        case hQbz23 => exact fun _ _ _ h => h
        case hybz23 =>
          refine Or.inl ⟨by rfl, ?_⟩
          intro wS hSw
          go_simp
          try with_reducible rfl
        try simp only [Act.put, List.setIfInBounds_toArray, List.set_cons_zero, List.set_cons_succ]
        refine wpAnyH_ready (rs := [21]) (by kernel_rfl) (by simp) ?_
        refine AllReadyH.cons (o := ?obz21) ?hobz21 (fun K hK => ?stepbz21) AllReadyH.nil
        case hobz21 => simp only [List.getElem?_toArray, List.getElem?_cons_succ, List.getElem?_cons_zero]; exact rfl
        go_simp
        refine (OC.out _).mono ?_
        rintro e w121 ⟨rfl, hb121⟩
        refine hK.out _ _ (Two2.step HS hb121) (fun HS => ?_)
        clear hK K
        try simp only [Act.put, List.setIfInBounds_toArray, List.set_cons_zero, List.set_cons_succ]
        refine wpAnyH_take (i := 22) (oi := ?oibz22) (v := ?vbz22) ?hibz22 (by kernel_rfl) (by kernel_rfl) (by kernel_rfl) ?hQbz22 ?hybz22 HS ?restbz22
        case hibz22 => simp only [List.getElem?_toArray, List.getElem?_cons_succ, List.getElem?_cons_zero]; exact rfl
        case hQbz22 => exact fun _ _ _ h => h
        case hybz22 =>
          refine Or.inl ⟨by rfl, ?_⟩
          intro wS hSw
          go_simp
          try with_reducible rfl
        try simp only [Act.put, List.setIfInBounds_toArray, List.set_cons_zero, List.set_cons_succ]
        refine wpAnyH_take (i := 24) (oi := ?oibz24) (v := ?vbz24) ?hibz24 (by kernel_rfl) (by kernel_rfl) (by kernel_rfl) ?hQbz24 ?hybz24 HS ?restbz24
        case hibz24 => simp only [List.getElem?_toArray, List.getElem?_cons_succ, List.getElem?_cons_zero]; exact rfl
        case hQbz24 => exact fun _ _ _ h => h
        case hybz24 =>
          refine Or.inl ⟨by rfl, ?_⟩
          intro wS hSw
          go_simp
          try with_reducible rfl
        try simp only [Act.put, List.setIfInBounds_toArray, List.set_cons_zero, List.set_cons_succ]
        refine wpAnyH_take (i := 25) (oi := ?oibz25) (v := ?vbz25) ?hibz25 (by kernel_rfl) (by kernel_rfl) (by kernel_rfl) ?hQbz25 ?hybz25 HS ?restbz25
        case hibz25 => simp only [List.getElem?_toArray, List.getElem?_cons_succ, List.getElem?_cons_zero]; exact rfl
        case hQbz25 => exact fun _ _ _ h => h
        case hybz25 =>
          refine Or.inl ⟨by rfl, ?_⟩
          intro wS hSw
          go_simp
          try with_reducible rfl
        try simp only [Act.put, List.setIfInBounds_toArray, List.set_cons_zero, List.set_cons_succ]
        refine wpAnyH_take (i := 26) (oi := ?oibz26) (v := ?vbz26) ?hibz26 (by kernel_rfl) (by kernel_rfl) (by kernel_rfl) ?hQbz26 ?hybz26 HS ?restbz26
        case hibz26 => simp only [List.getElem?_toArray, List.getElem?_cons_succ, List.getElem?_cons_zero]; exact rfl
        case hQbz26 => exact fun _ _ _ h => h
        case hybz26 =>
          refine Or.inl ⟨by rfl, ?_⟩
          intro wS hSw
          go_simp
          try with_reducible rfl
        try simp only [Act.put, List.setIfInBounds_toArray, List.set_cons_zero, List.set_cons_succ]
        refine wpAnyH_done (by kernel_rfl) ?_ _
        have HB := hid HS.2.2
        clear HS H5
        go_wp2
        go_ret
        exact ⟨rfl, HB.out⟩
theorem walkValueTexts (k1 n1 : Int) (s1 : ByteArray) (f1 : Int) (k2 n2 : Int) (s2 : ByteArray) (f2 : Int) (w : World) (_ : (Lit.int .i64 k1).wf = true) (h1 : (Lit.int .i64 n1).wf = true) (_ : s1.size ≤ maxLen) (g1 : (Lit.int .u64 f1).wf = true) (_ : (Lit.int .i64 k2).wf = true) (h2 : (Lit.int .i64 n2).wf = true) (_ : s2.size ≤ maxLen) (g2 : (Lit.int .u64 f2).wf = true) (hw : Lw w) :
    Calls Tryz.prog 10 #[.agg #[.int .i64 k1, .int .i64 n1, .string s1, .int .u64 f1], .agg #[.int .i64 k2, .int .i64 n2, .string s2, .int .u64 f2]] w fun e w' => e = .returned (.bool true) ∧ Below w.heap.size w w' := by
  obtain ⟨a, ea, fa, na, na2⟩ := vl_of (k := k1) (s := s1) h1 g1
  obtain ⟨b, eb, fb, nb, nb2⟩ := vl_of (k := k2) (s := s2) h2 g2
  rw [ea, eb]
  exact coreValueTexts a b w fa fb na na2 nb nb2 hw
end Go.Proofs.YtomgpkklbhdgiaaGreatDoor
