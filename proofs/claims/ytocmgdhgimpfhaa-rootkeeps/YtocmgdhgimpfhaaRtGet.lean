/- What root.Get answers, in its place among others. -/
import Derived.Test.YtocmgdhgimpfhaaRtPut
namespace Go.Proofs.Ytocmgdhgimpfhaa
open Go.RowKit

set_option maxRecDepth 100000 in
set_option maxHeartbeats 4000000 in
theorem get_on {C : Ob → Ob} {w wr : World} {gd gv gc : Nat} {d : St} {v : Va} {c : Ce} {X : Nat → Prop} (hC : Foc C) (hOk : ∀ P : Ob, P.Ok → (C P).Ok) (h : On w (C (TC gd d gv v gc c)) wr X) (hv : c.ver ≤ 500000) (hm : c.mark ≤ 600000) :
    Calls Try.prog 25 #[.pointer (some ⟨gd, 0, none⟩), .pointer (some ⟨gv, 0, none⟩), .pointer (some ⟨gc, 0, none⟩)] wr fun e w' => ∃ A n k, e = .returned (.tuple #[.slice A n k, .int .i64 (gtE d v c)]) ∧ w'.ownsRow wr.heap.size 5 1 (.slice A n k) n (bs (gtB d v c)) ∧ n ≤ 65536 ∧ Below wr.heap.size wr w' := by
  have HWF : Hid ((rtP c).wf) := hid (rtP_wf (by omega) (by omega))
  have HOK := hid hOk
  obtain ⟨hb, -, -⟩ := ce_at (hC.comp (tc_c gd d gv v)) h
  obtain ⟨x0, x1⟩ := ce_cells hb
  have HB := hid hb
  have HH := hid h
  clear hb h hOk hv hm
  by_cases hz : c.ver = 0
  · have e1 : ((c.ver : Int) == 0) = true := by simp [hz]
    have e2 : decide ((c.ver : Int) = 0) = true := by simp [hz]
    have e3 : decide (c.ver = 0) = true := by simp [hz]
    have e4 : (c.ver == 0) = true := by simp [hz]
    have HE : Hid (gtE d v c = 90) := hid (if_pos hz)
    have HO : Hid (gtB d v c = []) := hid (if_pos hz)
    generalize c.ver = V at *
    clear hz
    go_enter Try.func25, Try.ntmps25
    go_wp2
    go_ret2
    exact ⟨none, 0, 0, by rw [HE.out]; rfl, by rw [HO.out]; exact own_nilrow _ _ _ _, by omega, Below.refl _ _⟩
  · have e1 : ((c.ver : Int) == 0) = false := by simp; omega
    have e2 : decide ((c.ver : Int) = 0) = false := by simp; omega
    have e3 : decide (c.ver = 0) = false := by simpa using hz
    have e4 : (c.ver == 0) = false := by simpa using hz
    have HE : Hid (gtE d v c = prE d v (rtI c) (rtP c)) := hid (if_neg hz)
    have HO : Hid (gtB d v c = prB d v (rtI c) (rtP c)) := hid (if_neg hz)
    clear hz
    go_enter Try.func25, Try.ntmps25
    go_wp2_with fail
    clear e1 e2 e3 e4 x0 x1
    have HB5 : Hid (Below wr.heap.size wr wr.drew) := hid ((Below.refl _ _).drew)
    have H5 := hid (HH.out.go (HOK.out _ (TC.ok _ _ _ _ _ _)) (wr' := wr.drew) ((Below.refl _ _).drew))
    have HK5 : Hid (Blk wr.drew gc 33 #[.int .i64 (c.ver : Int), .int .i64 (c.mark : Int)]) := hid HB.out
    clear HH HB
    refine wp_region_held_drew (S := fun wx => wx.cell? ⟨gc, 0, none⟩ = some (.int .i64 (c.ver : Int)) ∧ wx.cell? ⟨gc, 1, none⟩ = some (.int .i64 (c.mark : Int))) (by kernel_rfl) (ce_cells HK5.out) (fun HS => ?_)
    generalize wr.drew = w5 at *
    refine wpAnyH_take (i := 0) (oi := ?oia0) (v := ?va0) ?hia0 (by kernel_rfl) (by kernel_rfl) (by kernel_rfl) ?hQa0 ?hya0 HS ?resta0
    case hia0 => simp only [List.getElem?_toArray, List.getElem?_cons_zero]; exact rfl
    case hQa0 => exact fun _ _ _ h => h
    case hya0 =>
      refine Or.inl ⟨by rfl, ?_⟩
      intro wS hSw
      go_simp
      try with_reducible rfl
    try simp only [Act.put, List.setIfInBounds_toArray, List.set_cons_zero, List.set_cons_succ]
    refine wpAnyH_take (i := 1) (oi := ?oia1) (v := ?va1) ?hia1 (by kernel_rfl) (by kernel_rfl) (by kernel_rfl) ?hQa1 ?hya1 HS ?resta1
    case hia1 => simp only [List.getElem?_toArray, List.getElem?_cons_succ, List.getElem?_cons_zero]; exact rfl
    case hQa1 => exact fun _ _ _ h => h
    case hya1 =>
      refine Or.inl ⟨by rfl, ?_⟩
      intro wS hSw
      go_simp
      try with_reducible rfl
    try simp only [Act.put, List.setIfInBounds_toArray, List.set_cons_zero, List.set_cons_succ]
    refine wpAnyH_take (i := 2) (oi := ?oia2) (v := ?va2) ?hia2 (by kernel_rfl) (by kernel_rfl) (by kernel_rfl) ?hQa2 ?hya2 HS ?resta2
    case hia2 => simp only [List.getElem?_toArray, List.getElem?_cons_succ, List.getElem?_cons_zero]; exact rfl
    case hQa2 => exact fun _ _ _ h => h
    case hya2 =>
      refine Or.inl ⟨by rfl, ?_⟩
      intro wS hSw
      go_simp
      try with_reducible rfl
    try simp only [Act.put, List.setIfInBounds_toArray, List.set_cons_zero, List.set_cons_succ]
    refine wpAnyH_take (i := 3) (oi := ?oia3) (v := ?va3) ?hia3 (by kernel_rfl) (by kernel_rfl) (by kernel_rfl) ?hQa3 ?hya3 HS ?resta3
    case hia3 => simp only [List.getElem?_toArray, List.getElem?_cons_succ, List.getElem?_cons_zero]; exact rfl
    case hQa3 => exact fun _ _ _ h => h
    case hya3 =>
      refine Or.inl ⟨by rfl, ?_⟩
      intro wS hSw
      go_simp
      try with_reducible rfl
    try simp only [Act.put, List.setIfInBounds_toArray, List.set_cons_zero, List.set_cons_succ]
    refine wpAnyH_take (i := 4) (oi := ?oia4) (v := ?va4) ?hia4 (by kernel_rfl) (by kernel_rfl) (by kernel_rfl) ?hQa4 ?hya4 HS ?resta4
    case hia4 => simp only [List.getElem?_toArray, List.getElem?_cons_succ, List.getElem?_cons_zero]; exact rfl
    case hQa4 => exact fun _ _ _ h => h
    case hya4 =>
      refine Or.inl ⟨by rfl, ?_⟩
      intro wS hSw
      go_simp
      try with_reducible rfl
    try simp only [Act.put, List.setIfInBounds_toArray, List.set_cons_zero, List.set_cons_succ]
    refine wpAnyH_take (i := 6) (oi := ?oia6) (v := ?va6) ?hia6 (by kernel_rfl) (by kernel_rfl) (by kernel_rfl) ?hQa6 ?hya6 HS ?resta6
    case hia6 => simp only [List.getElem?_toArray, List.getElem?_cons_succ, List.getElem?_cons_zero]; exact rfl
    case hQa6 => exact fun _ _ _ h => h
    case hya6 =>
      refine Or.inl ⟨by rfl, ?_⟩
      intro wS hSw
      go_simp
      try with_reducible rfl
    try simp only [Act.put, List.setIfInBounds_toArray, List.set_cons_zero, List.set_cons_succ]
    refine wpAnyH_take (i := 7) (oi := ?oia7) (v := ?va7) ?hia7 (by kernel_rfl) (by kernel_rfl) (by kernel_rfl) ?hQa7 ?hya7 HS ?resta7
    case hia7 => simp only [List.getElem?_toArray, List.getElem?_cons_succ, List.getElem?_cons_zero]; exact rfl
    case hQa7 => exact fun _ _ _ h => h
    case hya7 =>
      refine Or.inl ⟨by rfl, ?_⟩
      intro wS hSw
      go_simp
      try with_reducible rfl
    try simp only [Act.put, List.setIfInBounds_toArray, List.set_cons_zero, List.set_cons_succ]
    refine wpAnyH_take (i := 8) (oi := ?oia8) (v := ?va8) ?hia8 (by kernel_rfl) (by kernel_rfl) (by kernel_rfl) ?hQa8 ?hya8 HS ?resta8
    case hia8 => simp only [List.getElem?_toArray, List.getElem?_cons_succ, List.getElem?_cons_zero]; exact rfl
    case hQa8 => exact fun _ _ _ h => h
    case hya8 =>
      refine Or.inl ⟨by rfl, ?_⟩
      intro wS hSw
      go_simp
      try with_reducible rfl
    try simp only [Act.put, List.setIfInBounds_toArray, List.set_cons_zero, List.set_cons_succ]
    refine wpAnyH_ready (rs := [5]) (by kernel_rfl) (by simp) ?_
    refine AllReadyH.cons (o := ?oa5) ?hoa5 (fun K hK => ?stepa5) AllReadyH.nil
    case hoa5 => simp only [List.getElem?_toArray, List.getElem?_cons_succ, List.getElem?_cons_zero]; exact rfl
    go_simp
    refine (cblock_c c w5).mono ?_
    rintro e wa ⟨rfl, hba⟩
    have HBa := hid (HB5.out.trans (hba.mono HB5.out.size))
    have Ha := hid (H5.out.go (HOK.out _ (TC.ok _ _ _ _ _ _)) hba)
    have HKa := hid (HK5.out.keep (hba.block gc HK5.out.lt))
    clear hba HB5 H5 HK5
    refine hK.out _ _ (ce_cells HKa.out) (fun HS => ?_)
    clear hK K
    try simp only [Act.put, List.setIfInBounds_toArray, List.set_cons_zero, List.set_cons_succ]
    refine wpAnyH_ready (rs := [9]) (by kernel_rfl) (by simp) ?_
    refine AllReadyH.cons (o := ?oa9) ?hoa9 (fun K hK => ?stepa9) AllReadyH.nil
    case hoa9 => simp only [List.getElem?_toArray, List.getElem?_cons_succ, List.getElem?_cons_zero]; exact rfl
    go_simp
    refine (cpage_c c wa).mono ?_
    rintro e wb ⟨rfl, hba⟩
    have HBb := hid (HBa.out.trans (hba.mono HBa.out.size))
    have Hb := hid (Ha.out.go (HOK.out _ (TC.ok _ _ _ _ _ _)) hba)
    have HKb := hid (HKa.out.keep (hba.block gc HKa.out.lt))
    clear hba HBa Ha HKa
    refine hK.out _ _ (ce_cells HKb.out) (fun HS => ?_)
    clear hK K
    try simp only [Act.put, List.setIfInBounds_toArray, List.set_cons_zero, List.set_cons_succ]
    refine wpAnyH_ready (rs := [10]) (by kernel_rfl) (by simp) ?_
    refine AllReadyH.cons (o := ?oa10) ?hoa10 (fun K hK => ?stepa10) AllReadyH.nil
    case hoa10 => simp only [List.getElem?_toArray, List.getElem?_cons_succ, List.getElem?_cons_zero]; exact rfl
    go_simp
    refine (pread_on (hC.comp (tc_p gc c)) Hb.out (rtP c) HWF.out (rtI c) (rtI_ok _)).mono ?_
    rintro e w6 ⟨A5, n5, c5, rfl, ho5, hn5, hb5⟩
    have HO5 := hid ho5
    have HN5 := hid hn5
    have HBz := hid (HBb.out.trans (hb5.mono HBb.out.size))
    have HKz := hid (HKb.out.keep (hb5.block gc HKb.out.lt))
    clear ho5 hn5 hb5
    refine hK.out _ _ (ce_cells HKz.out) (fun HS => ?_)
    clear hK K
    try simp only [Act.put, List.setIfInBounds_toArray, List.set_cons_zero, List.set_cons_succ]
    refine wpAnyH_take (i := 11) (oi := ?oia11) (v := ?va11) ?hia11 (by kernel_rfl) (by kernel_rfl) (by kernel_rfl) ?hQa11 ?hya11 HS ?resta11
    case hia11 => simp only [List.getElem?_toArray, List.getElem?_cons_succ, List.getElem?_cons_zero]; exact rfl
    case hQa11 => exact fun _ _ _ h => h
    case hya11 =>
      refine Or.inl ⟨by rfl, ?_⟩
      intro wS hSw
      go_simp
      try with_reducible rfl
    try simp only [Act.put, List.setIfInBounds_toArray, List.set_cons_zero, List.set_cons_succ]
    refine wpAnyH_take (i := 12) (oi := ?oia12) (v := ?va12) ?hia12 (by kernel_rfl) (by kernel_rfl) (by kernel_rfl) ?hQa12 ?hya12 HS ?resta12
    case hia12 => simp only [List.getElem?_toArray, List.getElem?_cons_succ, List.getElem?_cons_zero]; exact rfl
    case hQa12 => exact fun _ _ _ h => h
    case hya12 =>
      refine Or.inl ⟨by rfl, ?_⟩
      intro wS hSw
      go_simp
      try with_reducible rfl
    try simp only [Act.put, List.setIfInBounds_toArray, List.set_cons_zero, List.set_cons_succ]
    refine wpAnyH_take (i := 13) (oi := ?oia13) (v := ?va13) ?hia13 (by kernel_rfl) (by kernel_rfl) (by kernel_rfl) ?hQa13 ?hya13 HS ?resta13
    case hia13 => simp only [List.getElem?_toArray, List.getElem?_cons_succ, List.getElem?_cons_zero]; exact rfl
    case hQa13 => exact fun _ _ _ h => h
    case hya13 =>
      refine Or.inl ⟨by rfl, ?_⟩
      intro wS hSw
      go_simp
      try with_reducible rfl
    try simp only [Act.put, List.setIfInBounds_toArray, List.set_cons_zero, List.set_cons_succ]
    refine wpAnyH_take (i := 14) (oi := ?oia14) (v := ?va14) ?hia14 (by kernel_rfl) (by kernel_rfl) (by kernel_rfl) ?hQa14 ?hya14 HS ?resta14
    case hia14 => simp only [List.getElem?_toArray, List.getElem?_cons_succ, List.getElem?_cons_zero]; exact rfl
    case hQa14 => exact fun _ _ _ h => h
    case hya14 =>
      refine Or.inl ⟨by rfl, ?_⟩
      intro wS hSw
      go_simp
      try with_reducible rfl
    try simp only [Act.put, List.setIfInBounds_toArray, List.set_cons_zero, List.set_cons_succ]
    refine wpAnyH_done (by kernel_rfl) ?_ _
    go_wp2
    go_ret2
    exact ⟨A5, n5, c5, by rw [HE.out]; rfl, by rw [HO.out]; exact own_lower HO5.out HBb.out.size, HN5.out, HBz.out⟩
end Go.Proofs.Ytocmgdhgimpfhaa
