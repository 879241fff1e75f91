/- The walk of ValueMasks: for every value, mask and kind the law answers true. -/
import Derived.Test.YtomgpkklbhdgiaaGreatDoorVlArg
import Derived.Test.YtomgpkklbhdgiaaGreatDoorVlMaskR
import Derived.Test.YtomgpkklbhdgiaaGreatDoorVlMaskQ
namespace Go.Proofs.YtomgpkklbhdgiaaGreatDoor
open Go.RowKit

/-- A value, a mask and what became of it, where they lie. -/
def MsS (w : World) (g h : Nat) (v : Vl) (mk mn : Int) (x : Vl) (wx : World) : Prop := Blk wx g 25 (cs4 v) ∧ Blk wx (g + 1) 48 #[.int .i64 mk, .int .i64 mn] ∧ Blk wx h 25 (cs4 x) ∧ Below w.heap.size w wx
theorem MsS.step {w : World} {g h : Nat} {v x : Vl} {mk mn : Int} {wx wy : World} (hs : MsS w g h v mk mn x wx) (hb : Below wx.heap.size wx wy) : MsS w g h v mk mn x wy :=
  ⟨hs.1.bel hb hs.1.lt, hs.2.1.bel hb hs.2.1.lt, hs.2.2.1.bel hb hs.2.2.1.lt, hs.2.2.2.trans (hb.mono hs.2.2.2.size)⟩
theorem two_kinds {w : World} {t u : TypeId} {cs ds : Array Value} {wz : World} (hb : Below ((w.alloc (.cells cs t)).alloc (.cells ds u)).heap.size ((w.alloc (.cells cs t)).alloc (.cells ds u)) wz) :
    Blk wz w.heap.size t cs ∧ Blk wz (w.heap.size + 1) u ds ∧ Below w.heap.size w wz :=
  ⟨((Blk.new w t cs).old _).bel hb (by simp; omega), by
    have h := (Blk.new (w.alloc (.cells cs t)) u ds).bel hb (by simp)
    rw [sz1] at h
    exact h, (bel2 w _ _).trans (hb.mono (by simp; omega))⟩
theorem mask_again (v : Vl) (mk mn : Int) : vRight (vMask v mk mn) = true ∧ vMask (vMask v mk mn) mk mn = vMask v mk mn := by
  have h := vMaskR_right (vRt_right v) mk mn
  refine ⟨h, ?_⟩
  show vMaskR (vRt (vMaskR (vRt v) mk mn)) mk mn = vMaskR (vRt v) mk mn
  rw [vRt_of h, vMaskR_twice]
theorem mask_f {v : Vl} (hf : vf v < 18446744073709551616) (mk mn : Int) : vf (vMask v mk mn) < 18446744073709551616 := by
  show vf (vMaskR (vRt v) mk mn) < _
  have h := vRt_f hf
  unfold vMaskR
  (repeat' split) <;> first | exact h | exact (by decide : (0 : Nat) < 18446744073709551616)

set_option maxRecDepth 20000 in
set_option maxHeartbeats 4000000 in
theorem coreValueMasks (v : Vl) (mk mn k : Int) (w : World) (hf : vf v < 18446744073709551616) (hw : Lw w) :
    Calls Tryz.prog 8 #[(.agg #[.int .i64 (vk v), .int .i64 (vn v), .string (str (vs v)), .int .u64 ((vf v : Nat) : Int)]), .agg #[.int .i64 mk, .int .i64 mn], .int .i64 k] w fun e w' => e = .returned (.bool true) ∧ Below w.heap.size w w' := by
  have HW := hid hw
  have HF := hid hf
  clear hw hf
  have zv : (str (vs v)).size = (vs v).length := str_size _
  go_enter Tryz.func8, Tryz.ntmps8
  go_wp2_with fail
  refine (first_c _ (HW.out.below (bel2 w _ _))).mono ?_
  rintro e w1 ⟨rfl, hb1⟩
  obtain ⟨B1, B2, hbel⟩ := two_kinds hb1
  clear hb1
  obtain ⟨p0, p1, p2, p3, -⟩ := Blk.v4 B1
  obtain ⟨q0, q1⟩ := Blk.v2 B2
  by_cases hb : 1000 < (vs v).length
  · have d1 : decide (1000 < ((vs v).length : Int)) = true := by simp; omega
    have d1' : decide (1000 < (vs v).length) = true := by simpa using hb
    clear B1 B2 hb
    go_wp2
    go_ret
    exact ⟨rfl, hbel⟩
  have d1 : decide (1000 < ((vs v).length : Int)) = false := by simp; omega
  have d1' : decide (1000 < (vs v).length) = false := by simpa using hb
  clear hb
  obtain ⟨x, hx⟩ : ∃ x, x = vMask v mk mn := ⟨_, rfl⟩
  have C1 := hid (fun wx => vmask_c v HF.out mk mn wx)
  have C2 := hid (fun wx => rmask_c v HF.out mk mn wx)
  have C3 := hid (fun wx => rRight_c (vMask v mk mn) (mask_f HF.out mk mn) wx)
  have C4 := hid (fun wx => vmask_c (vMask v mk mn) (mask_f HF.out mk mn) mk mn wx)
  have HR := hid (mask_again v mk mn)
  rw [HR.out.1] at C3
  rw [HR.out.2] at C4
  rw [← hx] at C1 C2 C3 C4
  have C5 := hid (fun wx => rightMask_c mk mn k wx)
  have C6 := hid (fun wx => rrightMask_c mk mn k wx)
  generalize vRM mk mn k = rb at *
  clear HR hx
  go_wp2_with fail
  refine (C1.out _).mono ?_
  rintro e w2 ⟨rfl, hb2⟩
  have H3 : MsS w w.heap.size w2.heap.size v mk mn x (w2.alloc (.cells (cs4 x) 25)) :=
    ⟨(B1.bel hb2 B1.lt).old _, (B2.bel hb2 B2.lt).old _, Blk.new w2 25 (cs4 x), (hbel.trans (hb2.mono hbel.size)).alloc (Nat.le_trans hbel.size hb2.size) _⟩
  have H4 := H3.step (wy := (w2.alloc (.cells (cs4 x) 25)).drew) (Below.refl _ _).drew
  clear H3 B1 B2 hbel p0 p1 p2 p3 q0 q1 hb2 zv d1 d1'
  go_wp2_with fail
  refine wp_region_held_drew (S := MsS w w.heap.size w2.heap.size v mk mn x) (by kernel_rfl) H4 (fun HS => ?_)
  refine wpAnyH_take (i := 0) (oi := ?oi0) (v := ?v0) ?hi0 (by kernel_rfl) (by kernel_rfl) (by kernel_rfl) ?hQ0 ?hy0 HS ?rest0
  case hi0 => simp only [List.getElem?_toArray, List.getElem?_cons_zero]; exact rfl
  case hQ0 => exact fun _ _ _ h => h
  case hy0 =>
    refine Or.inl ⟨by rfl, ?_⟩
    intro wS hSw
    obtain ⟨p0, p1, p2, p3, -⟩ := Blk.v4 hSw.1
    obtain ⟨q0, q1⟩ := Blk.v2 hSw.2.1
    obtain ⟨r0, r1, r2, r3, -⟩ := Blk.v4 hSw.2.2.1
    go_simp
    try with_reducible rfl
  try simp only [Act.put, List.setIfInBounds_toArray, List.set_cons_zero, List.set_cons_succ]
  refine wpAnyH_take (i := 1) (oi := ?oi1) (v := ?v1) ?hi1 (by kernel_rfl) (by kernel_rfl) (by kernel_rfl) ?hQ1 ?hy1 HS ?rest1
  case hi1 => simp only [List.getElem?_toArray, List.getElem?_cons_succ, List.getElem?_cons_zero]; exact rfl
  case hQ1 => exact fun _ _ _ h => h
  case hy1 =>
    refine Or.inl ⟨by rfl, ?_⟩
    intro wS hSw
    obtain ⟨p0, p1, p2, p3, -⟩ := Blk.v4 hSw.1
    obtain ⟨q0, q1⟩ := Blk.v2 hSw.2.1
    obtain ⟨r0, r1, r2, r3, -⟩ := Blk.v4 hSw.2.2.1
    go_simp
    try with_reducible rfl
  try simp only [Act.put, List.setIfInBounds_toArray, List.set_cons_zero, List.set_cons_succ]
  refine wpAnyH_take (i := 2) (oi := ?oi2) (v := ?v2) ?hi2 (by kernel_rfl) (by kernel_rfl) (by kernel_rfl) ?hQ2 ?hy2 HS ?rest2
  case hi2 => simp only [List.getElem?_toArray, List.getElem?_cons_succ, List.getElem?_cons_zero]; exact rfl
  case hQ2 => exact fun _ _ _ h => h
  case hy2 =>
    refine Or.inl ⟨by rfl, ?_⟩
    intro wS hSw
    obtain ⟨p0, p1, p2, p3, -⟩ := Blk.v4 hSw.1
    obtain ⟨q0, q1⟩ := Blk.v2 hSw.2.1
    obtain ⟨r0, r1, r2, r3, -⟩ := Blk.v4 hSw.2.2.1
    go_simp
    try with_reducible rfl
  try simp only [Act.put, List.setIfInBounds_toArray, List.set_cons_zero, List.set_cons_succ]
  refine wpAnyH_ready (rs := [3]) (by kernel_rfl) (by simp) ?_
  refine AllReadyH.cons (o := ?o3) ?ho3 (fun K hK => ?step3) AllReadyH.nil
  case ho3 => simp only [List.getElem?_toArray, List.getElem?_cons_succ, List.getElem?_cons_zero]; exact rfl
  go_simp
  refine (C2.out _).mono ?_
  rintro e w103 ⟨rfl, hb103⟩
  refine hK.out _ _ (MsS.step HS hb103) (fun HS => ?_)
  clear hK K
  try simp only [Act.put, List.setIfInBounds_toArray, List.set_cons_zero, List.set_cons_succ]
  refine wpAnyH_take (i := 4) (oi := ?oi4) (v := ?v4) ?hi4 (by kernel_rfl) (by kernel_rfl) (by kernel_rfl) ?hQ4 ?hy4 HS ?rest4
  case hi4 => simp only [List.getElem?_toArray, List.getElem?_cons_succ, List.getElem?_cons_zero]; exact rfl
  case hQ4 => exact fun _ _ _ h => h
  case hy4 =>
    refine Or.inl ⟨by rfl, ?_⟩
    intro wS hSw
    go_simp
    try with_reducible rfl
  try simp only [Act.put, List.setIfInBounds_toArray, List.set_cons_zero, List.set_cons_succ]
  refine wpAnyH_take (i := 5) (oi := ?oi5) (v := ?v5) ?hi5 (by kernel_rfl) (by kernel_rfl) (by kernel_rfl) ?hQ5 ?hy5 HS ?rest5
  case hi5 => simp only [List.getElem?_toArray, List.getElem?_cons_succ, List.getElem?_cons_zero]; exact rfl
  case hQ5 => exact fun _ _ _ h => h
  case hy5 =>
    refine Or.inl ⟨by rfl, ?_⟩
    intro wS hSw
    go_simp
    try with_reducible rfl
  try simp only [Act.put, List.setIfInBounds_toArray, List.set_cons_zero, List.set_cons_succ]
  refine wpAnyH_take (i := 6) (oi := ?oi6) (v := ?v6) ?hi6 (by kernel_rfl) (by kernel_rfl) (by kernel_rfl) ?hQ6 ?hy6 HS ?rest6
  case hi6 => simp only [List.getElem?_toArray, List.getElem?_cons_succ, List.getElem?_cons_zero]; exact rfl
  case hQ6 => exact fun _ _ _ h => h
  case hy6 =>
    refine Or.inl ⟨by rfl, ?_⟩
    intro wS hSw
    obtain ⟨p0, p1, p2, p3, -⟩ := Blk.v4 hSw.1
    obtain ⟨q0, q1⟩ := Blk.v2 hSw.2.1
    obtain ⟨r0, r1, r2, r3, -⟩ := Blk.v4 hSw.2.2.1
    go_simp
    try with_reducible rfl
  try simp only [Act.put, List.setIfInBounds_toArray, List.set_cons_zero, List.set_cons_succ]
  refine wpAnyH_ready (rs := [7]) (by kernel_rfl) (by simp) ?_
  refine AllReadyH.cons (o := ?o7) ?ho7 (fun K hK => ?step7) AllReadyH.nil
  case ho7 => simp only [List.getElem?_toArray, List.getElem?_cons_succ, List.getElem?_cons_zero]; exact rfl
  go_simp
  refine (C3.out _).mono ?_
  rintro e w107 ⟨rfl, hb107⟩
  refine hK.out _ _ (MsS.step HS hb107) (fun HS => ?_)
  clear hK K
  try simp only [Act.put, List.setIfInBounds_toArray, List.set_cons_zero, List.set_cons_succ]
  refine wpAnyH_take (i := 8) (oi := ?oi8) (v := ?v8) ?hi8 (by kernel_rfl) (by kernel_rfl) (by kernel_rfl) ?hQ8 ?hy8 HS ?rest8
  case hi8 => simp only [List.getElem?_toArray, List.getElem?_cons_succ, List.getElem?_cons_zero]; exact rfl
  case hQ8 => exact fun _ _ _ h => h
  case hy8 =>
    refine Or.inl ⟨by rfl, ?_⟩
    intro wS hSw
    go_simp
    try with_reducible rfl
  try simp only [Act.put, List.setIfInBounds_toArray, List.set_cons_zero, List.set_cons_succ]
  refine wpAnyH_take (i := 9) (oi := ?oi9) (v := ?v9) ?hi9 (by kernel_rfl) (by kernel_rfl) (by kernel_rfl) ?hQ9 ?hy9 HS ?rest9
  case hi9 => simp only [List.getElem?_toArray, List.getElem?_cons_succ, List.getElem?_cons_zero]; exact rfl
  case hQ9 => exact fun _ _ _ h => h
  case hy9 =>
    refine Or.inl ⟨by rfl, ?_⟩
    intro wS hSw
    go_simp
    try with_reducible rfl
  try simp only [Act.put, List.setIfInBounds_toArray, List.set_cons_zero, List.set_cons_succ]
  refine wpAnyH_take (i := 10) (oi := ?oi10) (v := ?v10) ?hi10 (by kernel_rfl) (by kernel_rfl) (by kernel_rfl) ?hQ10 ?hy10 HS ?rest10
  case hi10 => simp only [List.getElem?_toArray, List.getElem?_cons_succ, List.getElem?_cons_zero]; exact rfl
  case hQ10 => exact fun _ _ _ h => h
  case hy10 =>
    refine Or.inl ⟨by rfl, ?_⟩
    intro wS hSw
    obtain ⟨p0, p1, p2, p3, -⟩ := Blk.v4 hSw.1
    obtain ⟨q0, q1⟩ := Blk.v2 hSw.2.1
    obtain ⟨r0, r1, r2, r3, -⟩ := Blk.v4 hSw.2.2.1
    go_simp
    try with_reducible rfl
  try simp only [Act.put, List.setIfInBounds_toArray, List.set_cons_zero, List.set_cons_succ]
  refine wpAnyH_take (i := 11) (oi := ?oi11) (v := ?v11) ?hi11 (by kernel_rfl) (by kernel_rfl) (by kernel_rfl) ?hQ11 ?hy11 HS ?rest11
  case hi11 => simp only [List.getElem?_toArray, List.getElem?_cons_succ, List.getElem?_cons_zero]; exact rfl
  case hQ11 => exact fun _ _ _ h => h
  case hy11 =>
    refine Or.inl ⟨by rfl, ?_⟩
    intro wS hSw
    obtain ⟨p0, p1, p2, p3, -⟩ := Blk.v4 hSw.1
    obtain ⟨q0, q1⟩ := Blk.v2 hSw.2.1
    obtain ⟨r0, r1, r2, r3, -⟩ := Blk.v4 hSw.2.2.1
    go_simp
    try with_reducible rfl
  try simp only [Act.put, List.setIfInBounds_toArray, List.set_cons_zero, List.set_cons_succ]
  refine wpAnyH_take (i := 13) (oi := ?oi13) (v := ?v13) ?hi13 (by kernel_rfl) (by kernel_rfl) (by kernel_rfl) ?hQ13 ?hy13 HS ?rest13
  case hi13 => simp only [List.getElem?_toArray, List.getElem?_cons_succ, List.getElem?_cons_zero]; exact rfl
  case hQ13 => exact fun _ _ _ h => h
  case hy13 =>
    refine Or.inl ⟨by rfl, ?_⟩
    intro wS hSw
    obtain ⟨p0, p1, p2, p3, -⟩ := Blk.v4 hSw.1
    obtain ⟨q0, q1⟩ := Blk.v2 hSw.2.1
    obtain ⟨r0, r1, r2, r3, -⟩ := Blk.v4 hSw.2.2.1
    go_simp
    try with_reducible rfl
  try simp only [Act.put, List.setIfInBounds_toArray, List.set_cons_zero, List.set_cons_succ]
  refine wpAnyH_ready (rs := [12]) (by kernel_rfl) (by simp) ?_
  refine AllReadyH.cons (o := ?o12) ?ho12 (fun K hK => ?step12) AllReadyH.nil
  case ho12 => simp only [List.getElem?_toArray, List.getElem?_cons_succ, List.getElem?_cons_zero]; exact rfl
  go_simp
  refine (C4.out _).mono ?_
  rintro e w112 ⟨rfl, hb112⟩
  refine hK.out _ _ (MsS.step HS hb112) (fun HS => ?_)
  clear hK K
  try simp only [Act.put, List.setIfInBounds_toArray, List.set_cons_zero, List.set_cons_succ]
  refine wpAnyH_take (i := 14) (oi := ?oi14) (v := ?v14) ?hi14 (by kernel_rfl) (by kernel_rfl) (by kernel_rfl) ?hQ14 ?hy14 HS ?rest14
  case hi14 => simp only [List.getElem?_toArray, List.getElem?_cons_succ, List.getElem?_cons_zero]; exact rfl
  case hQ14 => exact fun _ _ _ h => h
  case hy14 =>
    refine Or.inl ⟨by rfl, ?_⟩
    intro wS hSw
    go_simp
    try with_reducible rfl
  try simp only [Act.put, List.setIfInBounds_toArray, List.set_cons_zero, List.set_cons_succ]
  refine wpAnyH_take (i := 15) (oi := ?oi15) (v := ?v15) ?hi15 (by kernel_rfl) (by kernel_rfl) (by kernel_rfl) ?hQ15 ?hy15 HS ?rest15
  case hi15 => simp only [List.getElem?_toArray, List.getElem?_cons_succ, List.getElem?_cons_zero]; exact rfl
  case hQ15 => exact fun _ _ _ h => h
  case hy15 =>
    refine Or.inl ⟨by rfl, ?_⟩
    intro wS hSw
    go_simp
    try with_reducible rfl
  try simp only [Act.put, List.setIfInBounds_toArray, List.set_cons_zero, List.set_cons_succ]
  refine wpAnyH_take (i := 16) (oi := ?oi16) (v := ?v16) ?hi16 (by kernel_rfl) (by kernel_rfl) (by kernel_rfl) ?hQ16 ?hy16 HS ?rest16
  case hi16 => simp only [List.getElem?_toArray, List.getElem?_cons_succ, List.getElem?_cons_zero]; exact rfl
  case hQ16 => exact fun _ _ _ h => h
  case hy16 =>
    refine Or.inl ⟨by rfl, ?_⟩
    intro wS hSw
    go_simp
    try with_reducible rfl
  try simp only [Act.put, List.setIfInBounds_toArray, List.set_cons_zero, List.set_cons_succ]
  refine wpAnyH_take (i := 17) (oi := ?oi17) (v := ?v17) ?hi17 (by kernel_rfl) (by kernel_rfl) (by kernel_rfl) ?hQ17 ?hy17 HS ?rest17
  case hi17 => simp only [List.getElem?_toArray, List.getElem?_cons_succ, List.getElem?_cons_zero]; exact rfl
  case hQ17 => exact fun _ _ _ h => h
  case hy17 =>
    refine Or.inl ⟨by rfl, ?_⟩
    intro wS hSw
    obtain ⟨p0, p1, p2, p3, -⟩ := Blk.v4 hSw.1
    obtain ⟨q0, q1⟩ := Blk.v2 hSw.2.1
    obtain ⟨r0, r1, r2, r3, -⟩ := Blk.v4 hSw.2.2.1
    go_simp
    try with_reducible rfl
  try simp only [Act.put, List.setIfInBounds_toArray, List.set_cons_zero, List.set_cons_succ]
  refine wpAnyH_take (i := 18) (oi := ?oi18) (v := ?v18) ?hi18 (by kernel_rfl) (by kernel_rfl) (by kernel_rfl) ?hQ18 ?hy18 HS ?rest18
  case hi18 => simp only [List.getElem?_toArray, List.getElem?_cons_succ, List.getElem?_cons_zero]; exact rfl
  case hQ18 => exact fun _ _ _ h => h
  case hy18 =>
    refine Or.inl ⟨by rfl, ?_⟩
    intro wS hSw
    go_simp
    try with_reducible rfl
  try simp only [Act.put, List.setIfInBounds_toArray, List.set_cons_zero, List.set_cons_succ]
  refine wpAnyH_take (i := 20) (oi := ?oi20) (v := ?v20) ?hi20 (by kernel_rfl) (by kernel_rfl) (by kernel_rfl) ?hQ20 ?hy20 HS ?rest20
  case hi20 => simp only [List.getElem?_toArray, List.getElem?_cons_succ, List.getElem?_cons_zero]; exact rfl
  case hQ20 => exact fun _ _ _ h => h
  case hy20 =>
    refine Or.inl ⟨by rfl, ?_⟩
    intro wS hSw
    obtain ⟨p0, p1, p2, p3, -⟩ := Blk.v4 hSw.1
    obtain ⟨q0, q1⟩ := Blk.v2 hSw.2.1
    obtain ⟨r0, r1, r2, r3, -⟩ := Blk.v4 hSw.2.2.1
    go_simp
    try with_reducible rfl
  try simp only [Act.put, List.setIfInBounds_toArray, List.set_cons_zero, List.set_cons_succ]
  refine wpAnyH_take (i := 21) (oi := ?oi21) (v := ?v21) ?hi21 (by kernel_rfl) (by kernel_rfl) (by kernel_rfl) ?hQ21 ?hy21 HS ?rest21
  case hi21 => simp only [List.getElem?_toArray, List.getElem?_cons_succ, List.getElem?_cons_zero]; exact rfl
  case hQ21 => exact fun _ _ _ h => h
  case hy21 =>
    refine Or.inl ⟨by rfl, ?_⟩
    intro wS hSw
    go_simp
    try with_reducible rfl
  try simp only [Act.put, List.setIfInBounds_toArray, List.set_cons_zero, List.set_cons_succ]
  refine wpAnyH_ready (rs := [19]) (by kernel_rfl) (by simp) ?_
  refine AllReadyH.cons (o := ?o19) ?ho19 (fun K hK => ?step19) AllReadyH.nil
  case ho19 => simp only [List.getElem?_toArray, List.getElem?_cons_succ, List.getElem?_cons_zero]; exact rfl
  go_simp
  refine (C5.out _).mono ?_
  rintro e w119 ⟨rfl, hb119⟩
  refine hK.out _ _ (MsS.step HS hb119) (fun HS => ?_)
  clear hK K
  try simp only [Act.put, List.setIfInBounds_toArray, List.set_cons_zero, List.set_cons_succ]
  refine wpAnyH_ready (rs := [22]) (by kernel_rfl) (by simp) ?_
  refine AllReadyH.cons (o := ?o22) ?ho22 (fun K hK => ?step22) AllReadyH.nil
  case ho22 => simp only [List.getElem?_toArray, List.getElem?_cons_succ, List.getElem?_cons_zero]; exact rfl
  go_simp
  refine (C6.out _).mono ?_
  rintro e w122 ⟨rfl, hb122⟩
  refine hK.out _ _ (MsS.step HS hb122) (fun HS => ?_)
  clear hK K
  try simp only [Act.put, List.setIfInBounds_toArray, List.set_cons_zero, List.set_cons_succ]
  refine wpAnyH_take (i := 23) (oi := ?oi23) (v := ?v23) ?hi23 (by kernel_rfl) (by kernel_rfl) (by kernel_rfl) ?hQ23 ?hy23 HS ?rest23
  case hi23 => simp only [List.getElem?_toArray, List.getElem?_cons_succ, List.getElem?_cons_zero]; exact rfl
  case hQ23 => exact fun _ _ _ h => h
  case hy23 =>
    refine Or.inl ⟨by rfl, ?_⟩
    intro wS hSw
    go_simp
    try with_reducible rfl
  try simp only [Act.put, List.setIfInBounds_toArray, List.set_cons_zero, List.set_cons_succ]
  refine wpAnyH_take (i := 24) (oi := ?oi24) (v := ?v24) ?hi24 (by kernel_rfl) (by kernel_rfl) (by kernel_rfl) ?hQ24 ?hy24 HS ?rest24
  case hi24 => simp only [List.getElem?_toArray, List.getElem?_cons_succ, List.getElem?_cons_zero]; exact rfl
  case hQ24 => exact fun _ _ _ h => h
  case hy24 =>
    refine Or.inl ⟨by rfl, ?_⟩
    intro wS hSw
    go_simp
    try with_reducible rfl
  try simp only [Act.put, List.setIfInBounds_toArray, List.set_cons_zero, List.set_cons_succ]
  refine wpAnyH_take (i := 25) (oi := ?oi25) (v := ?v25) ?hi25 (by kernel_rfl) (by kernel_rfl) (by kernel_rfl) ?hQ25 ?hy25 HS ?rest25
  case hi25 => simp only [List.getElem?_toArray, List.getElem?_cons_succ, List.getElem?_cons_zero]; exact rfl
  case hQ25 => exact fun _ _ _ h => h
  case hy25 =>
    refine Or.inl ⟨by rfl, ?_⟩
    intro wS hSw
    go_simp
    try with_reducible rfl
  try simp only [Act.put, List.setIfInBounds_toArray, List.set_cons_zero, List.set_cons_succ]
  refine wpAnyH_done (by kernel_rfl) ?_ _
  have HB := hid HS.2.2.2
  clear HS H4
  go_wp2
  go_ret
  exact ⟨rfl, HB.out⟩
theorem walkValueMasks (k1 n1 : Int) (s1 : ByteArray) (f1 : Int) (mk mn k : Int) (w : World) (_ : (Lit.int .i64 k1).wf = true) (h1 : (Lit.int .i64 n1).wf = true) (_ : s1.size ≤ maxLen) (g1 : (Lit.int .u64 f1).wf = true) (_ : (Lit.int .i64 mk).wf = true) (_ : (Lit.int .i64 mn).wf = true) (_ : (Lit.int .i64 k).wf = true) (hw : Lw w) :
    Calls Tryz.prog 8 #[.agg #[.int .i64 k1, .int .i64 n1, .string s1, .int .u64 f1], .agg #[.int .i64 mk, .int .i64 mn], .int .i64 k] w fun e w' => e = .returned (.bool true) ∧ Below w.heap.size w w' := by
  obtain ⟨a, ea, fa, -, -⟩ := vl_of (k := k1) (s := s1) h1 g1
  rw [ea]
  exact coreValueMasks a mk mn k w fa hw
end Go.Proofs.YtomgpkklbhdgiaaGreatDoor
