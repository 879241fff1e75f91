/- The walk of ValueHeads: for every two values and two numbers the law answers true. -/
import Derived.Test.YtomgpkklbhdgiaaGreatDoorVlArg
import Derived.Test.YtomgpkklbhdgiaaGreatDoorVlEq
import Derived.Deep.DeepCutAuto
namespace Go.Proofs.YtomgpkklbhdgiaaGreatDoor
open Go.RowKit

theorem hd_c (x : Vl) (k : Int) (hf : vf x < 18446744073709551616) (w : World) :
    Calls Tryz.prog 32 #[(.agg #[.int .i64 (vk x), .int .i64 (vn x), .string (str (vs x)), .int .u64 ((vf x : Nat) : Int)]), .int .i64 k] w fun e w' => e = .returned (.agg #[.int .i64 (vk (vMask x 3 k)), .int .i64 (vn (vMask x 3 k)), .string (str (vs (vMask x 3 k))), .int .u64 ((vf (vMask x 3 k) : Nat) : Int)]) ∧ Below w.heap.size w w' := by
  have HM := hid (fun wx => vmask_c x hf 3 k wx)
  generalize vMask x 3 k = r at *
  clear hf
  go_enter Tryz.func32, Tryz.ntmps32
  go_wp2_with fail
  refine (HM.out _).mono ?_
  rintro e w2 ⟨rfl, hb2⟩
  obtain ⟨-, B2, hbel⟩ := two_boxes0 hb2
  obtain ⟨q0, q1, q2, q3, qf⟩ := B2.v4
  clear HM hb2 B2
  go_wp2
  refine bodyPost_ret (v := (.agg #[.int .i64 (vk r), .int .i64 (vn r), .string (str (vs r)), .int .u64 ((vf r : Nat) : Int)])) (by simp [results, Tryz.results32, go_sem, q0, q1, q2, q3]) rfl ⟨rfl, bel4 hbel (by omega) _ _ _ _⟩
def HdS (w : World) (a b : Vl) (x y : Int) (wx : World) : Prop := Blk wx w.heap.size 25 (cs4 a) ∧ Blk wx (w.heap.size + 1) 25 (cs4 b) ∧ Blk wx (w.heap.size + 2) 52 #[.int .u8 x, .int .u8 y] ∧ Below w.heap.size w wx
theorem HdS.step {w : World} {a b : Vl} {x y : Int} {wx wy : World} (h : HdS w a b x y wx) (hb : Below wx.heap.size wx wy) : HdS w a b x y wy :=
  ⟨h.1.bel hb h.1.lt, h.2.1.bel hb h.2.1.lt, h.2.2.1.bel hb h.2.2.1.lt, h.2.2.2.trans (hb.mono h.2.2.2.size)⟩
theorem HdS.alc {w : World} {a b : Vl} {x y : Int} {wx : World} (h : HdS w a b x y wx) (o : Obj) : HdS w a b x y (wx.alloc o) := h.step (bel1 wx o)
theorem HdS.put {w : World} {a b : Vl} {x y : Int} {wx : World} {g : Nat} (h : HdS w a b x y wx) (hg : w.heap.size + 2 < g) {c0 c1 c2 c3 : Value} : HdS w a b x y ((((wx.setCell ⟨g, 0, none⟩ c0).setCell ⟨g, 1, none⟩ c1).setCell ⟨g, 2, none⟩ c2).setCell ⟨g, 3, none⟩ c3) :=
  ⟨h.1.far4 (by omega) _ _ _ _, h.2.1.far4 (by omega) _ _ _ _, h.2.2.1.far4 (by omega) _ _ _ _, bel4 h.2.2.2 (by omega) _ _ _ _⟩
theorem zk_ne {a b : Vl} (h : vk a ≠ vk b) : ((vk a, 0, [], 0) : Vl) ≠ (vk b, 0, [], 0) := fun e => h (by injection e)
def HZ2 (w : World) (a b : Vl) (x y : Int) (g h : Nat) (xz yz : Vl) (wx : World) : Prop := HdS w a b x y wx ∧ Blk wx g 25 (cs4 xz) ∧ Blk wx h 25 (cs4 yz)
theorem HZ2.mk {w : World} {a b : Vl} {x y : Int} {g h : Nat} {xz yz : Vl} {wx : World} (h1 : HdS w a b x y wx) (h2 : Blk wx g 25 (cs4 xz)) (h3 : Blk wx h 25 (cs4 yz)) : HZ2 w a b x y g h xz yz wx := ⟨h1, h2, h3⟩
theorem HZ2.step {w : World} {a b : Vl} {x y : Int} {g h : Nat} {xz yz : Vl} {wx wy : World} (hs : HZ2 w a b x y g h xz yz wx) (hb : Below wx.heap.size wx wy) : HZ2 w a b x y g h xz yz wy := ⟨hs.1.step hb, hs.2.1.bel hb hs.2.1.lt, hs.2.2.bel hb hs.2.2.lt⟩
theorem rem70 {x : Int} (h1 : 0 ≤ x) (_h2 : x < 256) : ∃ m : Nat, m < 70 ∧ x % 70 = (m : Int) ∧ Int.tmod x 70 = (m : Int) ∧ IntKind.u8.wrap (m : Int) = (m : Int) ∧ wrap64 (m : Int) = (m : Int) ∧ IntKind.i64.wrap (m : Int) = (m : Int) := by
  refine ⟨(x % 70).toNat, by omega, by omega, ?_, ?_, ?_, ?_⟩
  · rw [Int.tmod_eq_emod_of_nonneg h1]; omega
  · rw [IntKind.wrap_u8]; omega
  · unfold wrap64; omega
  · exact IntWalk.i64_in _ (by omega)
theorem min_forms (x y : Nat) : ∃ m : Nat, (m : Int) = min (x : Int) (y : Int) ∧ (if (x : Int) < (y : Int) then (x : Int) else (y : Int)) = (m : Int) ∧ (if (y : Int) < (x : Int) then (y : Int) else (x : Int)) = (m : Int) ∧ (if (x : Int) ≤ (y : Int) then (x : Int) else (y : Int)) = (m : Int) ∧ (if (y : Int) ≤ (x : Int) then (y : Int) else (x : Int)) = (m : Int) ∧ min (x : Int) (y : Int) = (m : Int) ∧ (if x < y then (x : Int) else (y : Int)) = (m : Int) ∧ (if y < x then (y : Int) else (x : Int)) = (m : Int) :=
  ⟨min x y, by omega, by split <;> omega, by split <;> omega, by split <;> omega, by split <;> omega, by omega, by split <;> omega, by split <;> omega⟩
theorem hh_mask {a : Vl} (h : vRight a = true) (x y : Nat) : vMask (vMask a 3 (x : Int)) 3 (y : Int) = vMask a 3 (min (x : Int) (y : Int)) := by
  have h1 : vMask a 3 (x : Int) = vMaskR a 3 (x : Int) := by unfold vMask; rw [vRt_of h]
  have h2 : vMask a 3 (min (x : Int) (y : Int)) = vMaskR a 3 (min (x : Int) (y : Int)) := by unfold vMask; rw [vRt_of h]
  rw [h1, h2]
  unfold vMask
  rw [vRt_of (vMaskR_right h _ _), vHead_head a _ _ (by omega) (by omega)]
theorem hide_mask {a : Vl} (h : vRight a = true) : vMask a 1 0 = vNull := by unfold vMask; rw [vRt_of h]; exact maskx h (by decide) (by decide) (by decide) 0
theorem keep_mask {a : Vl} (h : vRight a = true) : vMask a 0 0 = a := by unfold vMask; rw [vRt_of h]; exact vMaskR_keep (.inl rfl)
theorem zero_mask {a : Vl} (h : vRight a = true) : vMask a 2 0 = (vk a, 0, [], 0) := by unfold vMask; rw [vRt_of h]; exact mask2 h 0
theorem maskf {v : Vl} (hf : vf v < 18446744073709551616) (mk mn : Int) : vf (vMask v mk mn) < 18446744073709551616 := by
  show vf (vMaskR (vRt v) mk mn) < _
  have h := vRt_f hf
  unfold vMaskR
  (repeat' split) <;> first | exact h | exact (by decide : (0 : Nat) < 18446744073709551616)

set_option maxRecDepth 20000 in
set_option maxHeartbeats 8000000 in
theorem coreValueHeads (a b : Vl) (x y : Int) (w : World) (fa : vf a < 18446744073709551616) (fb : vf b < 18446744073709551616) (x1 : 0 ≤ x) (x2 : x < 256) (y1 : 0 ≤ y) (y2 : y < 256) (hw : Lw w) :
    Calls Tryz.prog 9 #[(.agg #[.int .i64 (vk a), .int .i64 (vn a), .string (str (vs a)), .int .u64 ((vf a : Nat) : Int)]), (.agg #[.int .i64 (vk b), .int .i64 (vn b), .string (str (vs b)), .int .u64 ((vf b : Nat) : Int)]), .agg #[.int .u8 x, .int .u8 y]] w fun e w' => e = .returned (.bool true) ∧ Below w.heap.size w w' := by
  have HW := hid hw
  have RA := hid (fun wx => rRight_c a fa wx)
  have RB := hid (fun wx => rRight_c b fb wx)
  have za : (str (vs a)).size = (vs a).length := str_size _
  have zb : (str (vs b)).size = (vs b).length := str_size _
  obtain ⟨m, hm, e1, e2, e3, e4, e5⟩ := max_forms (vs a).length (vs b).length
  obtain ⟨X, X70, xa1, xa2, xa3, xa4, xa5⟩ := rem70 x1 x2
  obtain ⟨Y, Y70, ya1, ya2, ya3, ya4, ya5⟩ := rem70 y1 y2
  obtain ⟨M, hM, m1, m2, m3, m4, m5, m6, m7⟩ := min_forms X Y
  have C1 := hid (fun wx => hd_c a (X : Int) fa wx)
  have C2 := hid (fun wx => hd_c (vMask a 3 (X : Int)) (Y : Int) (maskf fa _ _) wx)
  have C3 := hid (fun wx => hd_c a (M : Int) fa wx)
  have C4 := hid (fun wx => vmask_c a fa 1 0 wx)
  have C5 := hid (fun wx => vmask_c a fa 2 0 wx)
  have C6 := hid (fun wx => vmask_c b fb 2 0 wx)
  have C7 := hid (fun wx => vmask_c a fa 0 0 wx)
  have HH : Hid (vRight a = true → vMask (vMask a 3 (X : Int)) 3 (Y : Int) = vMask a 3 (M : Int)) := hid (fun h => by rw [hM]; exact hh_mask h X Y)
  clear hw fa fb x1 x2 y1 y2 X70 Y70 hM
  go_enter Tryz.func9, Tryz.ntmps9
  go_wp2_with fail
  refine (first_c _ (HW.out.below ((bel2 w _ _).alloc (by simp; omega) _))).mono ?_
  rintro e w1 ⟨rfl, hb1⟩
  have H1 : HdS w a b x y w1 := three_boxes hb1
  clear hb1
  obtain ⟨p0, p1, p2, p3, -⟩ := Blk.v4 H1.1
  obtain ⟨q0, q1, q2, q3, -⟩ := Blk.v4 H1.2.1
  by_cases hbig : 500 < m
  · have d1 : decide (500 < (m : Int)) = true := by simp; omega
    have d1' : decide (500 < m) = true := by simpa using hbig
    have HB := hid H1.2.2.2
    clear H1 hbig hm
    go_wp2
    go_ret
    exact ⟨rfl, HB.out⟩
  have d1 : decide (500 < (m : Int)) = false := by simp; omega
  have d1' : decide (500 < m) = false := by simpa using hbig
  clear hbig hm
  go_wp2_with fail
  refine (RA.out _).mono ?_
  rintro e w2 ⟨rfl, hb2⟩
  have H2 := H1.step hb2
  clear p0 p1 p2 p3 q0 q1 q2 q3 H1 hb2
  obtain ⟨q0, q1, q2, q3, -⟩ := Blk.v4 H2.2.1
  cases ha : vRight a
  · have HB := hid H2.2.2.2
    clear H2 ha
    go_wp2
    go_ret
    exact ⟨rfl, HB.out⟩
  go_wp2_with fail
  refine (RB.out _).mono ?_
  rintro e w3 ⟨rfl, hb3⟩
  have H3 := H2.step hb3
  clear q0 q1 q2 q3 H2 hb3
  obtain ⟨r0, r1⟩ := Blk.v2 H3.2.2.1
  cases hb : vRight b
  · have HB := hid H3.2.2.2
    clear H3 ha hb
    go_wp2
    go_ret
    exact ⟨rfl, HB.out⟩
  rw [HH.out ha] at C2
  rw [hide_mask ha] at C4
  rw [zero_mask ha] at C5
  rw [zero_mask hb] at C6
  rw [keep_mask ha] at C7
  clear RA RB HH za zb e1 e2 e3 e4 e5 d1 d1' ha hb
  go_wp2_with fail
  go_quiet (fail)
  have H4 := H3.step (wy := w3.drewN nq) (bdN nq (Below.refl _ _))
  clear H3 r0 r1
  generalize w3.drewN nq = W4 at *
  generalize vMask a 3 (X : Int) = v1 at *
  generalize vMask a 3 (M : Int) = v2 at *
  have z0 : vk vNull = 0 := rfl
  have z1 : vn vNull = 0 := rfl
  have z2 : (str (vs vNull)).toList = [] := str_list []
  have z3 : vf vNull = 0 := rfl
  go_wp2_with fail
  refine wp_region_held_drew (S := HdS w a b x y) (by kernel_rfl) (H4.step (Below.refl _ _).drew) (fun HS => ?_)
  refine wpAnyH_take (i := 0) (oi := ?oi0) (v := ?v0) ?hi0 (by kernel_rfl) (by kernel_rfl) (by kernel_rfl) ?hQ0 ?hy0 HS ?rest0
  case hi0 => simp only [List.getElem?_toArray, List.getElem?_cons_zero]; exact rfl
  case hQ0 => exact fun _ _ _ h => h
  case hy0 =>
    refine Or.inl ⟨by rfl, ?_⟩
    intro wS hSw
    go_simp
    try with_reducible rfl
  try simp only [Act.put, List.setIfInBounds_toArray, List.set_cons_zero, List.set_cons_succ]
  refine wpAnyH_take (i := 1) (oi := ?oi1) (v := ?v1) ?hi1 (by kernel_rfl) (by kernel_rfl) (by kernel_rfl) ?hQ1 ?hy1 HS ?rest1
  case hi1 => simp only [List.getElem?_toArray, List.getElem?_cons_succ, List.getElem?_cons_zero]; exact rfl
  case hQ1 => exact fun _ _ _ h => h
  case hy1 =>
    refine Or.inl ⟨by rfl, ?_⟩
    intro wS hSw
    go_simp
    try with_reducible rfl
  try simp only [Act.put, List.setIfInBounds_toArray, List.set_cons_zero, List.set_cons_succ]
  refine wpAnyH_take (i := 3) (oi := ?oi3) (v := ?v3) ?hi3 (by kernel_rfl) (by kernel_rfl) (by kernel_rfl) ?hQ3 ?hy3 HS ?rest3
  case hi3 => simp only [List.getElem?_toArray, List.getElem?_cons_succ, List.getElem?_cons_zero]; exact rfl
  case hQ3 => exact fun _ _ _ h => h
  case hy3 =>
    refine Or.inl ⟨by rfl, ?_⟩
    intro wS hSw
    go_simp
    try with_reducible rfl
  try simp only [Act.put, List.setIfInBounds_toArray, List.set_cons_zero, List.set_cons_succ]
  refine wpAnyH_take (i := 5) (oi := ?oi5) (v := ?v5) ?hi5 (by kernel_rfl) (by kernel_rfl) (by kernel_rfl) ?hQ5 ?hy5 HS ?rest5
  case hi5 => simp only [List.getElem?_toArray, List.getElem?_cons_succ, List.getElem?_cons_zero]; exact rfl
  case hQ5 => exact fun _ _ _ h => h
  case hy5 =>
    refine Or.inl ⟨by rfl, ?_⟩
    intro wS hSw
    go_simp
    try with_reducible rfl
  try simp only [Act.put, List.setIfInBounds_toArray, List.set_cons_zero, List.set_cons_succ]
  refine wpAnyH_take (i := 7) (oi := ?oi7) (v := ?v7) ?hi7 (by kernel_rfl) (by kernel_rfl) (by kernel_rfl) ?hQ7 ?hy7 HS ?rest7
  case hi7 => simp only [List.getElem?_toArray, List.getElem?_cons_succ, List.getElem?_cons_zero]; exact rfl
  case hQ7 => exact fun _ _ _ h => h
  case hy7 =>
    refine Or.inl ⟨by rfl, ?_⟩
    intro wS hSw
    go_simp
    try with_reducible rfl
  try simp only [Act.put, List.setIfInBounds_toArray, List.set_cons_zero, List.set_cons_succ]
  refine wpAnyH_take (i := 9) (oi := ?oi9) (v := ?v9) ?hi9 (by kernel_rfl) (by kernel_rfl) (by kernel_rfl) ?hQ9 ?hy9 HS ?rest9
  case hi9 => simp only [List.getElem?_toArray, List.getElem?_cons_succ, List.getElem?_cons_zero]; exact rfl
  case hQ9 => exact fun _ _ _ h => h
  case hy9 =>
    refine Or.inl ⟨by rfl, ?_⟩
    intro wS hSw
    go_simp
    try with_reducible rfl
  try simp only [Act.put, List.setIfInBounds_toArray, List.set_cons_zero, List.set_cons_succ]
  refine wpAnyH_take (i := 10) (oi := ?oi10) (v := ?v10) ?hi10 (by kernel_rfl) (by kernel_rfl) (by kernel_rfl) ?hQ10 ?hy10 HS ?rest10
  case hi10 => simp only [List.getElem?_toArray, List.getElem?_cons_succ, List.getElem?_cons_zero]; exact rfl
  case hQ10 => exact fun _ _ _ h => h
  case hy10 =>
    refine Or.inl ⟨by rfl, ?_⟩
    intro wS hSw
    go_simp
    try with_reducible rfl
  try simp only [Act.put, List.setIfInBounds_toArray, List.set_cons_zero, List.set_cons_succ]
  refine wpAnyH_take (i := 11) (oi := ?oi11) (v := ?v11) ?hi11 (by kernel_rfl) (by kernel_rfl) (by kernel_rfl) ?hQ11 ?hy11 HS ?rest11
  case hi11 => simp only [List.getElem?_toArray, List.getElem?_cons_succ, List.getElem?_cons_zero]; exact rfl
  case hQ11 => exact fun _ _ _ h => h
  case hy11 =>
    refine Or.inl ⟨by rfl, ?_⟩
    intro wS hSw
    go_simp
    try with_reducible rfl
  try simp only [Act.put, List.setIfInBounds_toArray, List.set_cons_zero, List.set_cons_succ]
  refine wpAnyH_take (i := 2) (oi := ?oi2) (v := ?v2) ?hi2 (by kernel_rfl) (by kernel_rfl) (by kernel_rfl) ?hQ2 ?hy2 HS ?rest2
  case hi2 => simp only [List.getElem?_toArray, List.getElem?_cons_succ, List.getElem?_cons_zero]; exact rfl
  case hQ2 => exact fun _ _ _ h => h
  case hy2 =>
    refine Or.inl ⟨by rfl, ?_⟩
    intro wS hSw
    obtain ⟨p0, p1, p2, p3, -⟩ := Blk.v4 hSw.1
    obtain ⟨q0, q1, q2, q3, -⟩ := Blk.v4 hSw.2.1
    go_simp
    try with_reducible rfl
  try simp only [Act.put, List.setIfInBounds_toArray, List.set_cons_zero, List.set_cons_succ]
  refine wpAnyH_take (i := 8) (oi := ?oi8) (v := ?v8) ?hi8 (by kernel_rfl) (by kernel_rfl) (by kernel_rfl) ?hQ8 ?hy8 HS ?rest8
  case hi8 => simp only [List.getElem?_toArray, List.getElem?_cons_succ, List.getElem?_cons_zero]; exact rfl
  case hQ8 => exact fun _ _ _ h => h
  case hy8 =>
    refine Or.inl ⟨by rfl, ?_⟩
    intro wS hSw
    obtain ⟨p0, p1, p2, p3, -⟩ := Blk.v4 hSw.1
    obtain ⟨q0, q1, q2, q3, -⟩ := Blk.v4 hSw.2.1
    go_simp
    try with_reducible rfl
  try simp only [Act.put, List.setIfInBounds_toArray, List.set_cons_zero, List.set_cons_succ]
  refine wpAnyH_ready (rs := [4]) (by kernel_rfl) (by simp) ?_
  refine AllReadyH.cons (o := ?o4) ?ho4 (fun K hK => ?step4) AllReadyH.nil
  case ho4 => simp only [List.getElem?_toArray, List.getElem?_cons_succ, List.getElem?_cons_zero]; exact rfl
  go_simp
  refine (C1.out _).mono ?_
  rintro e w104 ⟨rfl, hb104⟩
  refine hK.out _ _ (HdS.step HS hb104) (fun HS => ?_)
  clear hK K
  try simp only [Act.put, List.setIfInBounds_toArray, List.set_cons_zero, List.set_cons_succ]
  refine wpAnyH_ready (rs := [6]) (by kernel_rfl) (by simp) ?_
  refine AllReadyH.cons (o := ?o6) ?ho6 (fun K hK => ?step6) AllReadyH.nil
  case ho6 => simp only [List.getElem?_toArray, List.getElem?_cons_succ, List.getElem?_cons_zero]; exact rfl
  go_simp
  refine (C2.out _).mono ?_
  rintro e w106 ⟨rfl, hb106⟩
  refine hK.out _ _ (HdS.step HS hb106) (fun HS => ?_)
  clear hK K
  try simp only [Act.put, List.setIfInBounds_toArray, List.set_cons_zero, List.set_cons_succ]
  refine wpAnyH_ready (rs := [12]) (by kernel_rfl) (by simp) ?_
  refine AllReadyH.cons (o := ?o12) ?ho12 (fun K hK => ?step12) AllReadyH.nil
  case ho12 => simp only [List.getElem?_toArray, List.getElem?_cons_succ, List.getElem?_cons_zero]; exact rfl
  go_simp
  refine (C3.out _).mono ?_
  rintro e w112 ⟨rfl, hb112⟩
  refine hK.out _ _ (HdS.step HS hb112) (fun HS => ?_)
  clear hK K
  try simp only [Act.put, List.setIfInBounds_toArray, List.set_cons_zero, List.set_cons_succ]
  refine wpAnyH_take (i := 13) (oi := ?oi13) (v := ?v13) ?hi13 (by kernel_rfl) (by kernel_rfl) (by kernel_rfl) ?hQ13 ?hy13 HS ?rest13
  case hi13 => simp only [List.getElem?_toArray, List.getElem?_cons_succ, List.getElem?_cons_zero]; exact rfl
  case hQ13 => exact fun _ _ _ h => h
  case hy13 =>
    refine Or.inl ⟨by rfl, ?_⟩
    intro wS hSw
    go_simp
    try with_reducible rfl
  try simp only [Act.put, List.setIfInBounds_toArray, List.set_cons_zero, List.set_cons_succ]
  refine wpAnyH_take (i := 14) (oi := ?oi14) (v := ?v14) ?hi14 (by kernel_rfl) (by kernel_rfl) (by kernel_rfl) ?hQ14 ?hy14 HS ?rest14
  case hi14 => simp only [List.getElem?_toArray, List.getElem?_cons_succ, List.getElem?_cons_zero]; exact rfl
  case hQ14 => exact fun _ _ _ h => h
  case hy14 =>
    refine Or.inl ⟨by rfl, ?_⟩
    intro wS hSw
    go_simp
    try with_reducible rfl
  try simp only [Act.put, List.setIfInBounds_toArray, List.set_cons_zero, List.set_cons_succ]
  refine wpAnyH_take (i := 15) (oi := ?oi15) (v := ?v15) ?hi15 (by kernel_rfl) (by kernel_rfl) (by kernel_rfl) ?hQ15 ?hy15 HS ?rest15
  case hi15 => simp only [List.getElem?_toArray, List.getElem?_cons_succ, List.getElem?_cons_zero]; exact rfl
  case hQ15 => exact fun _ _ _ h => h
  case hy15 =>
    refine Or.inl ⟨by rfl, ?_⟩
    intro wS hSw
    obtain ⟨p0, p1, p2, p3, -⟩ := Blk.v4 hSw.1
    obtain ⟨q0, q1, q2, q3, -⟩ := Blk.v4 hSw.2.1
    go_simp
    try with_reducible rfl
  try simp only [Act.put, List.setIfInBounds_toArray, List.set_cons_zero, List.set_cons_succ]
  refine wpAnyH_take (i := 16) (oi := ?oi16) (v := ?v16) ?hi16 (by kernel_rfl) (by kernel_rfl) (by kernel_rfl) ?hQ16 ?hy16 HS ?rest16
  case hi16 => simp only [List.getElem?_toArray, List.getElem?_cons_succ, List.getElem?_cons_zero]; exact rfl
  case hQ16 => exact fun _ _ _ h => h
  case hy16 =>
    refine Or.inl ⟨by rfl, ?_⟩
    intro wS hSw
    go_simp
    try with_reducible rfl
  try simp only [Act.put, List.setIfInBounds_toArray, List.set_cons_zero, List.set_cons_succ]
  refine wpAnyH_take (i := 18) (oi := ?oi18) (v := ?v18) ?hi18 (by kernel_rfl) (by kernel_rfl) (by kernel_rfl) ?hQ18 ?hy18 HS ?rest18
  case hi18 => simp only [List.getElem?_toArray, List.getElem?_cons_succ, List.getElem?_cons_zero]; exact rfl
  case hQ18 => exact fun _ _ _ h => h
  case hy18 =>
    refine Or.inl ⟨by rfl, ?_⟩
    intro wS hSw
    go_simp
    try with_reducible rfl
  try simp only [Act.put, List.setIfInBounds_toArray, List.set_cons_zero, List.set_cons_succ]
  refine wpAnyH_ready (rs := [17]) (by kernel_rfl) (by simp) ?_
  refine AllReadyH.cons (o := ?o17) ?ho17 (fun K hK => ?step17) AllReadyH.nil
  case ho17 => simp only [List.getElem?_toArray, List.getElem?_cons_succ, List.getElem?_cons_zero]; exact rfl
  go_simp
  refine (C4.out _).mono ?_
  rintro e w117 ⟨rfl, hb117⟩
  refine hK.out _ _ (HdS.step HS hb117) (fun HS => ?_)
  clear hK K
  try simp only [Act.put, List.setIfInBounds_toArray, List.set_cons_zero, List.set_cons_succ]
  refine wpAnyH_take (i := 19) (oi := ?oi19) (v := ?v19) ?hi19 (by kernel_rfl) (by kernel_rfl) (by kernel_rfl) ?hQ19 ?hy19 HS ?rest19
  case hi19 => simp only [List.getElem?_toArray, List.getElem?_cons_succ, List.getElem?_cons_zero]; exact rfl
  case hQ19 => exact fun _ _ _ h => h
  case hy19 =>
    refine Or.inl ⟨by rfl, ?_⟩
    intro wS hSw
    go_simp
    try with_reducible rfl
  try simp only [Act.put, List.setIfInBounds_toArray, List.set_cons_zero, List.set_cons_succ]
  refine wpAnyH_take (i := 20) (oi := ?oi20) (v := ?v20) ?hi20 (by kernel_rfl) (by kernel_rfl) (by kernel_rfl) ?hQ20 ?hy20 HS ?rest20
  case hi20 => simp only [List.getElem?_toArray, List.getElem?_cons_succ, List.getElem?_cons_zero]; exact rfl
  case hQ20 => exact fun _ _ _ h => h
  case hy20 =>
    refine Or.inl ⟨by rfl, ?_⟩
    intro wS hSw
    go_simp
    try with_reducible rfl
  try simp only [Act.put, List.setIfInBounds_toArray, List.set_cons_zero, List.set_cons_succ]
  refine wpAnyH_done (by kernel_rfl) ?_ _
  have H5 := HS
  have H6 := H5.step (Below.refl _ _).drew
  clear H4 HS H5
  obtain ⟨xz, hxz⟩ : ∃ xz : Vl, xz = (vk a, 0, [], 0) := ⟨_, rfl⟩
  obtain ⟨yz, hyz⟩ : ∃ yz : Vl, yz = (vk b, 0, [], 0) := ⟨_, rfl⟩
  rw [← hxz] at C5
  rw [← hyz] at C6
  have HXZ := hid (And.intro hxz hyz)
  clear hxz hyz C1 C2 C3 C4 xa1 xa2 xa3 xa4 xa5 ya1 ya2 ya3 ya4 ya5 m1 m2 m3 m4 m5 m6 m7 z0 z1 z2 z3
  go_wp2_with fail
  go_cut [10, 11] (fun s10 s11 wx => ∃ g h : Nat, s10 = .pointer (some ⟨g, 0, none⟩) ∧ s11 = .pointer (some ⟨h, 0, none⟩) ∧ HdS w a b x y wx ∧ Blk wx g 25 (cs4 xz) ∧ Blk wx h 25 (cs4 yz))
  case first =>
    refine wp_region_held_drew (S := HdS w a b x y) (by kernel_rfl) H6 (fun HS => ?_)
    obtain ⟨V1, hV1, HS⟩ : ∃ V, V = _ ∧ HdS w a b x y V := ⟨_, rfl, HS⟩
    rw [← hV1]
    clear hV1
    refine wpAnyH_take (i := 0) (oi := ?oic0) (v := ?vc0) ?hic0 (by kernel_rfl) (by kernel_rfl) (by kernel_rfl) ?hQc0 ?hyc0 HS ?restc0
    case hic0 => simp only [List.getElem?_toArray, List.getElem?_cons_zero]; exact rfl
    case hQc0 => exact fun _ _ _ h => h
    case hyc0 =>
      refine Or.inl ⟨by rfl, ?_⟩
      intro wS hSw
      obtain ⟨p0, p1, p2, p3, -⟩ := Blk.v4 hSw.1
      obtain ⟨q0, q1, q2, q3, -⟩ := Blk.v4 hSw.2.1
      go_simp
      try with_reducible rfl
    try simp only [Act.put, List.setIfInBounds_toArray, List.set_cons_zero, List.set_cons_succ]
    refine wpAnyH_take (i := 1) (oi := ?oic1) (v := ?vc1) ?hic1 (by kernel_rfl) (by kernel_rfl) (by kernel_rfl) ?hQc1 ?hyc1 HS ?restc1
    case hic1 => simp only [List.getElem?_toArray, List.getElem?_cons_succ, List.getElem?_cons_zero]; exact rfl
    case hQc1 => exact fun _ _ _ h => h
    case hyc1 =>
      refine Or.inl ⟨by rfl, ?_⟩
      intro wS hSw
      go_simp
      try with_reducible rfl
    try simp only [Act.put, List.setIfInBounds_toArray, List.set_cons_zero, List.set_cons_succ]
    refine wpAnyH_take (i := 3) (oi := ?oic3) (v := ?vc3) ?hic3 (by kernel_rfl) (by kernel_rfl) (by kernel_rfl) ?hQc3 ?hyc3 HS ?restc3
    case hic3 => simp only [List.getElem?_toArray, List.getElem?_cons_succ, List.getElem?_cons_zero]; exact rfl
    case hQc3 => exact fun _ _ _ h => h
    case hyc3 =>
      refine Or.inl ⟨by rfl, ?_⟩
      intro wS hSw
      obtain ⟨p0, p1, p2, p3, -⟩ := Blk.v4 hSw.1
      obtain ⟨q0, q1, q2, q3, -⟩ := Blk.v4 hSw.2.1
      go_simp
      try with_reducible rfl
    try simp only [Act.put, List.setIfInBounds_toArray, List.set_cons_zero, List.set_cons_succ]
    refine wpAnyH_take (i := 4) (oi := ?oic4) (v := ?vc4) ?hic4 (by kernel_rfl) (by kernel_rfl) (by kernel_rfl) ?hQc4 ?hyc4 HS ?restc4
    case hic4 => simp only [List.getElem?_toArray, List.getElem?_cons_succ, List.getElem?_cons_zero]; exact rfl
    case hQc4 => exact fun _ _ _ h => h
    case hyc4 =>
      refine Or.inl ⟨by rfl, ?_⟩
      intro wS hSw
      go_simp
      try with_reducible rfl
    try simp only [Act.put, List.setIfInBounds_toArray, List.set_cons_zero, List.set_cons_succ]
    refine wpAnyH_ready (rs := [2, 6, 7]) (by kernel_rfl) (by simp) ?_
    refine (AllReadyH.cons (o := ?of1_2) ?hof1_2 (fun K hK => ?stepf1_2) (AllReadyH.cons (o := ?of1_6) ?hof1_6 (fun K hK => ?stepf1_6) (AllReadyH.cons (o := ?of1_7) ?hof1_7 (fun K hK => ?stepf1_7) AllReadyH.nil)))
    case hof1_2 => simp only [List.getElem?_toArray, List.getElem?_cons_succ, List.getElem?_cons_zero]; exact rfl
    case hof1_6 => simp only [List.getElem?_toArray, List.getElem?_cons_succ, List.getElem?_cons_zero]; exact rfl
    case hof1_7 => simp only [List.getElem?_toArray, List.getElem?_cons_succ, List.getElem?_cons_zero]; exact rfl
    case stepf1_2 =>
      go_simp
      refine (C5.out _).mono ?_
      rintro e u3W ⟨rfl, hbu3⟩
      refine hK.out _ _ (HdS.step HS hbu3) (fun HS => ?_)
      clear hK K
      try simp only [Act.put, List.setIfInBounds_toArray, List.set_cons_zero, List.set_cons_succ]
      refine wpAnyH_ready (rs := [5, 6, 7]) (by kernel_rfl) (by simp) ?_
      refine (AllReadyH.cons (o := ?of3_5) ?hof3_5 (fun K hK => ?stepf3_5) (AllReadyH.cons (o := ?of3_6) ?hof3_6 (fun K hK => ?stepf3_6) (AllReadyH.cons (o := ?of3_7) ?hof3_7 (fun K hK => ?stepf3_7) AllReadyH.nil)))
      case hof3_5 => simp only [List.getElem?_toArray, List.getElem?_cons_succ, List.getElem?_cons_zero]; exact rfl
      case hof3_6 => simp only [List.getElem?_toArray, List.getElem?_cons_succ, List.getElem?_cons_zero]; exact rfl
      case hof3_7 => simp only [List.getElem?_toArray, List.getElem?_cons_succ, List.getElem?_cons_zero]; exact rfl
      case stepf3_5 =>
        go_simp
        refine (C6.out _).mono ?_
        rintro e u5W ⟨rfl, hbu5⟩
        refine hK.out _ _ (HdS.step HS hbu5) (fun HS => ?_)
        clear hK K
        try simp only [Act.put, List.setIfInBounds_toArray, List.set_cons_zero, List.set_cons_succ]
        refine wpAnyH_ready (rs := [6, 7]) (by kernel_rfl) (by simp) ?_
        refine (AllReadyH.cons (o := ?of5_6) ?hof5_6 (fun K hK => ?stepf5_6) (AllReadyH.cons (o := ?of5_7) ?hof5_7 (fun K hK => ?stepf5_7) AllReadyH.nil))
        case hof5_6 => simp only [List.getElem?_toArray, List.getElem?_cons_succ, List.getElem?_cons_zero]; exact rfl
        case hof5_7 => simp only [List.getElem?_toArray, List.getElem?_cons_succ, List.getElem?_cons_zero]; exact rfl
        case stepf5_6 =>
          have hltV7 := Blk.lt HS.2.2.1
          go_simp
          refine hK.out _ _ (HdS.alc HS _) (fun HS => ?_)
          clear hK K
          try simp only [Act.put, List.setIfInBounds_toArray, List.set_cons_zero, List.set_cons_succ]
          obtain ⟨V7, hV7, HS⟩ : ∃ V, V = _ ∧ HdS w a b x y V := ⟨_, rfl, HS⟩
          rw [← hV7]
          have Z8 : Blk V7 u5W.heap.size 25 #[.int .i64 0, .int .i64 0, .string ⟨#[]⟩, .int .u64 0] := by rw [hV7]; exact Blk.new u5W 25 _
          have hg10 : w.heap.size + 2 < u5W.heap.size := hltV7
          clear hV7
          refine wpAnyH_ready (rs := [7]) (by kernel_rfl) (by simp) ?_
          refine (AllReadyH.cons (o := ?of8_7) ?hof8_7 (fun K hK => ?stepf8_7) AllReadyH.nil)
          case hof8_7 => simp only [List.getElem?_toArray, List.getElem?_cons_succ, List.getElem?_cons_zero]; exact rfl
          case stepf8_7 =>
            have hltV10 := Blk.lt HS.2.2.1
            go_simp
            refine hK.out _ _ (HdS.alc HS _) (fun HS => ?_)
            clear hK K
            try simp only [Act.put, List.setIfInBounds_toArray, List.set_cons_zero, List.set_cons_succ]
            obtain ⟨V10, hV10, HS⟩ : ∃ V, V = _ ∧ HdS w a b x y V := ⟨_, rfl, HS⟩
            rw [← hV10]
            have Z11 : Blk V10 u5W.heap.size 25 #[.int .i64 0, .int .i64 0, .string ⟨#[]⟩, .int .u64 0] := by rw [hV10]; exact Blk.old Z8 _
            have Z12 : Blk V10 V7.heap.size 25 #[.int .i64 0, .int .i64 0, .string ⟨#[]⟩, .int .u64 0] := by rw [hV10]; exact Blk.new V7 25 _
            have hg11 : w.heap.size + 2 < V7.heap.size := hltV10
            have hnn : u5W.heap.size ≠ V7.heap.size := by have h1 := Blk.lt Z8; omega
            clear hV10
            obtain ⟨a0, a1, a2, a3, af⟩ := Blk.v4 Z11
            obtain ⟨b0, b1, b2, b3, bf⟩ := Blk.v4 Z12
            refine wpAnyH_ready (rs := [8]) (by kernel_rfl) (by simp) ?_
            refine AllReadyH.cons (o := ?of12_8) ?hof12_8 (fun K hK => ?stepf12_8) AllReadyH.nil
            case hof12_8 => simp only [List.getElem?_toArray, List.getElem?_cons_succ, List.getElem?_cons_zero]; exact rfl
            go_simp
            refine hK.out _ _ (HS.put hg10) (fun HS => ?_)
            clear hK K
            try simp only [Act.put, List.setIfInBounds_toArray, List.set_cons_zero, List.set_cons_succ]
            obtain ⟨V14, hV14, HS⟩ : ∃ V, V = _ ∧ HdS w a b x y V := ⟨_, rfl, HS⟩
            rw [← hV14]
            have Y10 := Blk.put4 Z11 (.int .i64 (vk xz)) (.int .i64 (vn xz)) (.string (str (vs xz))) (.int .u64 ((vf xz : Nat) : Int))
            have Y11 := Blk.far4 Z12 (fun e => hnn e.symm) (.int .i64 (vk xz)) (.int .i64 (vn xz)) (.string (str (vs xz))) (.int .u64 ((vf xz : Nat) : Int))
            rw [← hV14] at Y10 Y11
            clear hV14 a0 a1 a2 a3 af b0 b1 b2 b3 bf
            obtain ⟨b0, b1, b2, b3, bf⟩ := Blk.v4 Y11
            refine wpAnyH_ready (rs := [9]) (by kernel_rfl) (by simp) ?_
            refine AllReadyH.cons (o := ?of12_9) ?hof12_9 (fun K hK => ?stepf12_9) AllReadyH.nil
            case hof12_9 => simp only [List.getElem?_toArray, List.getElem?_cons_succ, List.getElem?_cons_zero]; exact rfl
            go_simp
            refine hK.out _ _ (HS.put hg11) (fun HS => ?_)
            clear hK K
            try simp only [Act.put, List.setIfInBounds_toArray, List.set_cons_zero, List.set_cons_succ]
            obtain ⟨V15, hV15, HS⟩ : ∃ V, V = _ ∧ HdS w a b x y V := ⟨_, rfl, HS⟩
            rw [← hV15]
            have X11 := Blk.put4 Y11 (.int .i64 (vk yz)) (.int .i64 (vn yz)) (.string (str (vs yz))) (.int .u64 ((vf yz : Nat) : Int))
            have X10 := Blk.far4 Y10 hnn (.int .i64 (vk yz)) (.int .i64 (vn yz)) (.string (str (vs yz))) (.int .u64 ((vf yz : Nat) : Int))
            rw [← hV15] at X10 X11
            clear hV15
            refine wpAnyH_done (by kernel_rfl) ?_ _
            go_wp2_with fail
            go_meet
            exact ⟨_, _, rfl, rfl, HS, X10, X11⟩
        case stepf5_7 =>
          have hltV16 := Blk.lt HS.2.2.1
          go_simp
          refine hK.out _ _ (HdS.alc HS _) (fun HS => ?_)
          clear hK K
          try simp only [Act.put, List.setIfInBounds_toArray, List.set_cons_zero, List.set_cons_succ]
          obtain ⟨V16, hV16, HS⟩ : ∃ V, V = _ ∧ HdS w a b x y V := ⟨_, rfl, HS⟩
          rw [← hV16]
          have Z17 : Blk V16 u5W.heap.size 25 #[.int .i64 0, .int .i64 0, .string ⟨#[]⟩, .int .u64 0] := by rw [hV16]; exact Blk.new u5W 25 _
          have hg11 : w.heap.size + 2 < u5W.heap.size := hltV16
          clear hV16
          refine wpAnyH_ready (rs := [6]) (by kernel_rfl) (by simp) ?_
          refine (AllReadyH.cons (o := ?of17_6) ?hof17_6 (fun K hK => ?stepf17_6) AllReadyH.nil)
          case hof17_6 => simp only [List.getElem?_toArray, List.getElem?_cons_succ, List.getElem?_cons_zero]; exact rfl
          case stepf17_6 =>
            have hltV19 := Blk.lt HS.2.2.1
            go_simp
            refine hK.out _ _ (HdS.alc HS _) (fun HS => ?_)
            clear hK K
            try simp only [Act.put, List.setIfInBounds_toArray, List.set_cons_zero, List.set_cons_succ]
            obtain ⟨V19, hV19, HS⟩ : ∃ V, V = _ ∧ HdS w a b x y V := ⟨_, rfl, HS⟩
            rw [← hV19]
            have Z20 : Blk V19 u5W.heap.size 25 #[.int .i64 0, .int .i64 0, .string ⟨#[]⟩, .int .u64 0] := by rw [hV19]; exact Blk.old Z17 _
            have Z21 : Blk V19 V16.heap.size 25 #[.int .i64 0, .int .i64 0, .string ⟨#[]⟩, .int .u64 0] := by rw [hV19]; exact Blk.new V16 25 _
            have hg10 : w.heap.size + 2 < V16.heap.size := hltV19
            have hnn : V16.heap.size ≠ u5W.heap.size := by have h1 := Blk.lt Z17; omega
            clear hV19
            obtain ⟨a0, a1, a2, a3, af⟩ := Blk.v4 Z21
            obtain ⟨b0, b1, b2, b3, bf⟩ := Blk.v4 Z20
            refine wpAnyH_ready (rs := [8]) (by kernel_rfl) (by simp) ?_
            refine AllReadyH.cons (o := ?of21_8) ?hof21_8 (fun K hK => ?stepf21_8) AllReadyH.nil
            case hof21_8 => simp only [List.getElem?_toArray, List.getElem?_cons_succ, List.getElem?_cons_zero]; exact rfl
            go_simp
            refine hK.out _ _ (HS.put hg10) (fun HS => ?_)
            clear hK K
            try simp only [Act.put, List.setIfInBounds_toArray, List.set_cons_zero, List.set_cons_succ]
            obtain ⟨V23, hV23, HS⟩ : ∃ V, V = _ ∧ HdS w a b x y V := ⟨_, rfl, HS⟩
            rw [← hV23]
            have Y10 := Blk.put4 Z21 (.int .i64 (vk xz)) (.int .i64 (vn xz)) (.string (str (vs xz))) (.int .u64 ((vf xz : Nat) : Int))
            have Y11 := Blk.far4 Z20 (fun e => hnn e.symm) (.int .i64 (vk xz)) (.int .i64 (vn xz)) (.string (str (vs xz))) (.int .u64 ((vf xz : Nat) : Int))
            rw [← hV23] at Y10 Y11
            clear hV23 a0 a1 a2 a3 af b0 b1 b2 b3 bf
            obtain ⟨b0, b1, b2, b3, bf⟩ := Blk.v4 Y11
            refine wpAnyH_ready (rs := [9]) (by kernel_rfl) (by simp) ?_
            refine AllReadyH.cons (o := ?of21_9) ?hof21_9 (fun K hK => ?stepf21_9) AllReadyH.nil
            case hof21_9 => simp only [List.getElem?_toArray, List.getElem?_cons_succ, List.getElem?_cons_zero]; exact rfl
            go_simp
            refine hK.out _ _ (HS.put hg11) (fun HS => ?_)
            clear hK K
            try simp only [Act.put, List.setIfInBounds_toArray, List.set_cons_zero, List.set_cons_succ]
            obtain ⟨V24, hV24, HS⟩ : ∃ V, V = _ ∧ HdS w a b x y V := ⟨_, rfl, HS⟩
            rw [← hV24]
            have X11 := Blk.put4 Y11 (.int .i64 (vk yz)) (.int .i64 (vn yz)) (.string (str (vs yz))) (.int .u64 ((vf yz : Nat) : Int))
            have X10 := Blk.far4 Y10 hnn (.int .i64 (vk yz)) (.int .i64 (vn yz)) (.string (str (vs yz))) (.int .u64 ((vf yz : Nat) : Int))
            rw [← hV24] at X10 X11
            clear hV24
            refine wpAnyH_done (by kernel_rfl) ?_ _
            go_wp2_with fail
            go_meet
            exact ⟨_, _, rfl, rfl, HS, X10, X11⟩
      case stepf3_6 =>
        have hltV25 := Blk.lt HS.2.2.1
        go_simp
        refine hK.out _ _ (HdS.alc HS _) (fun HS => ?_)
        clear hK K
        try simp only [Act.put, List.setIfInBounds_toArray, List.set_cons_zero, List.set_cons_succ]
        obtain ⟨V25, hV25, HS⟩ : ∃ V, V = _ ∧ HdS w a b x y V := ⟨_, rfl, HS⟩
        rw [← hV25]
        have Z26 : Blk V25 u3W.heap.size 25 #[.int .i64 0, .int .i64 0, .string ⟨#[]⟩, .int .u64 0] := by rw [hV25]; exact Blk.new u3W 25 _
        have hg10 : w.heap.size + 2 < u3W.heap.size := hltV25
        clear hV25
        refine wpAnyH_ready (rs := [5, 7]) (by kernel_rfl) (by simp) ?_
        refine (AllReadyH.cons (o := ?of26_5) ?hof26_5 (fun K hK => ?stepf26_5) (AllReadyH.cons (o := ?of26_7) ?hof26_7 (fun K hK => ?stepf26_7) AllReadyH.nil))
        case hof26_5 => simp only [List.getElem?_toArray, List.getElem?_cons_succ, List.getElem?_cons_zero]; exact rfl
        case hof26_7 => simp only [List.getElem?_toArray, List.getElem?_cons_succ, List.getElem?_cons_zero]; exact rfl
        case stepf26_5 =>
          go_simp
          refine (C6.out _).mono ?_
          rintro e u28W ⟨rfl, hbu28⟩
          refine hK.out _ _ (HdS.step HS hbu28) (fun HS => ?_)
          clear hK K
          try simp only [Act.put, List.setIfInBounds_toArray, List.set_cons_zero, List.set_cons_succ]
          have Z29 := Blk.bel Z26 hbu28 (Blk.lt Z26)
          refine wpAnyH_ready (rs := [7]) (by kernel_rfl) (by simp) ?_
          refine (AllReadyH.cons (o := ?of29_7) ?hof29_7 (fun K hK => ?stepf29_7) AllReadyH.nil)
          case hof29_7 => simp only [List.getElem?_toArray, List.getElem?_cons_succ, List.getElem?_cons_zero]; exact rfl
          case stepf29_7 =>
            have hltV31 := Blk.lt HS.2.2.1
            go_simp
            refine hK.out _ _ (HdS.alc HS _) (fun HS => ?_)
            clear hK K
            try simp only [Act.put, List.setIfInBounds_toArray, List.set_cons_zero, List.set_cons_succ]
            obtain ⟨V31, hV31, HS⟩ : ∃ V, V = _ ∧ HdS w a b x y V := ⟨_, rfl, HS⟩
            rw [← hV31]
            have Z32 : Blk V31 u3W.heap.size 25 #[.int .i64 0, .int .i64 0, .string ⟨#[]⟩, .int .u64 0] := by rw [hV31]; exact Blk.old Z29 _
            have Z33 : Blk V31 u28W.heap.size 25 #[.int .i64 0, .int .i64 0, .string ⟨#[]⟩, .int .u64 0] := by rw [hV31]; exact Blk.new u28W 25 _
            have hg11 : w.heap.size + 2 < u28W.heap.size := hltV31
            have hnn : u3W.heap.size ≠ u28W.heap.size := by have h1 := Blk.lt Z29; omega
            clear hV31
            obtain ⟨a0, a1, a2, a3, af⟩ := Blk.v4 Z32
            obtain ⟨b0, b1, b2, b3, bf⟩ := Blk.v4 Z33
            refine wpAnyH_ready (rs := [8]) (by kernel_rfl) (by simp) ?_
            refine AllReadyH.cons (o := ?of33_8) ?hof33_8 (fun K hK => ?stepf33_8) AllReadyH.nil
            case hof33_8 => simp only [List.getElem?_toArray, List.getElem?_cons_succ, List.getElem?_cons_zero]; exact rfl
            go_simp
            refine hK.out _ _ (HS.put hg10) (fun HS => ?_)
            clear hK K
            try simp only [Act.put, List.setIfInBounds_toArray, List.set_cons_zero, List.set_cons_succ]
            obtain ⟨V35, hV35, HS⟩ : ∃ V, V = _ ∧ HdS w a b x y V := ⟨_, rfl, HS⟩
            rw [← hV35]
            have Y10 := Blk.put4 Z32 (.int .i64 (vk xz)) (.int .i64 (vn xz)) (.string (str (vs xz))) (.int .u64 ((vf xz : Nat) : Int))
            have Y11 := Blk.far4 Z33 (fun e => hnn e.symm) (.int .i64 (vk xz)) (.int .i64 (vn xz)) (.string (str (vs xz))) (.int .u64 ((vf xz : Nat) : Int))
            rw [← hV35] at Y10 Y11
            clear hV35 a0 a1 a2 a3 af b0 b1 b2 b3 bf
            obtain ⟨b0, b1, b2, b3, bf⟩ := Blk.v4 Y11
            refine wpAnyH_ready (rs := [9]) (by kernel_rfl) (by simp) ?_
            refine AllReadyH.cons (o := ?of33_9) ?hof33_9 (fun K hK => ?stepf33_9) AllReadyH.nil
            case hof33_9 => simp only [List.getElem?_toArray, List.getElem?_cons_succ, List.getElem?_cons_zero]; exact rfl
            go_simp
            refine hK.out _ _ (HS.put hg11) (fun HS => ?_)
            clear hK K
            try simp only [Act.put, List.setIfInBounds_toArray, List.set_cons_zero, List.set_cons_succ]
            obtain ⟨V36, hV36, HS⟩ : ∃ V, V = _ ∧ HdS w a b x y V := ⟨_, rfl, HS⟩
            rw [← hV36]
            have X11 := Blk.put4 Y11 (.int .i64 (vk yz)) (.int .i64 (vn yz)) (.string (str (vs yz))) (.int .u64 ((vf yz : Nat) : Int))
            have X10 := Blk.far4 Y10 hnn (.int .i64 (vk yz)) (.int .i64 (vn yz)) (.string (str (vs yz))) (.int .u64 ((vf yz : Nat) : Int))
            rw [← hV36] at X10 X11
            clear hV36
            refine wpAnyH_done (by kernel_rfl) ?_ _
            go_wp2_with fail
            go_meet
            exact ⟨_, _, rfl, rfl, HS, X10, X11⟩
        case stepf26_7 =>
          have hltV37 := Blk.lt HS.2.2.1
          go_simp
          refine hK.out _ _ (HdS.alc HS _) (fun HS => ?_)
          clear hK K
          try simp only [Act.put, List.setIfInBounds_toArray, List.set_cons_zero, List.set_cons_succ]
          obtain ⟨V37, hV37, HS⟩ : ∃ V, V = _ ∧ HdS w a b x y V := ⟨_, rfl, HS⟩
          rw [← hV37]
          have Z38 : Blk V37 u3W.heap.size 25 #[.int .i64 0, .int .i64 0, .string ⟨#[]⟩, .int .u64 0] := by rw [hV37]; exact Blk.old Z26 _
          have Z39 : Blk V37 V25.heap.size 25 #[.int .i64 0, .int .i64 0, .string ⟨#[]⟩, .int .u64 0] := by rw [hV37]; exact Blk.new V25 25 _
          have hg11 : w.heap.size + 2 < V25.heap.size := hltV37
          have hnn : u3W.heap.size ≠ V25.heap.size := by have h1 := Blk.lt Z26; omega
          clear hV37
          refine wpAnyH_ready (rs := [5]) (by kernel_rfl) (by simp) ?_
          refine (AllReadyH.cons (o := ?of39_5) ?hof39_5 (fun K hK => ?stepf39_5) AllReadyH.nil)
          case hof39_5 => simp only [List.getElem?_toArray, List.getElem?_cons_succ, List.getElem?_cons_zero]; exact rfl
          case stepf39_5 =>
            go_simp
            refine (C6.out _).mono ?_
            rintro e u41W ⟨rfl, hbu41⟩
            refine hK.out _ _ (HdS.step HS hbu41) (fun HS => ?_)
            clear hK K
            try simp only [Act.put, List.setIfInBounds_toArray, List.set_cons_zero, List.set_cons_succ]
            have Z42 := Blk.bel Z38 hbu41 (Blk.lt Z38)
            have Z43 := Blk.bel Z39 hbu41 (Blk.lt Z39)
            obtain ⟨a0, a1, a2, a3, af⟩ := Blk.v4 Z42
            obtain ⟨b0, b1, b2, b3, bf⟩ := Blk.v4 Z43
            refine wpAnyH_ready (rs := [8]) (by kernel_rfl) (by simp) ?_
            refine AllReadyH.cons (o := ?of43_8) ?hof43_8 (fun K hK => ?stepf43_8) AllReadyH.nil
            case hof43_8 => simp only [List.getElem?_toArray, List.getElem?_cons_succ, List.getElem?_cons_zero]; exact rfl
            go_simp
            refine hK.out _ _ (HS.put hg10) (fun HS => ?_)
            clear hK K
            try simp only [Act.put, List.setIfInBounds_toArray, List.set_cons_zero, List.set_cons_succ]
            obtain ⟨V45, hV45, HS⟩ : ∃ V, V = _ ∧ HdS w a b x y V := ⟨_, rfl, HS⟩
            rw [← hV45]
            have Y10 := Blk.put4 Z42 (.int .i64 (vk xz)) (.int .i64 (vn xz)) (.string (str (vs xz))) (.int .u64 ((vf xz : Nat) : Int))
            have Y11 := Blk.far4 Z43 (fun e => hnn e.symm) (.int .i64 (vk xz)) (.int .i64 (vn xz)) (.string (str (vs xz))) (.int .u64 ((vf xz : Nat) : Int))
            rw [← hV45] at Y10 Y11
            clear hV45 a0 a1 a2 a3 af b0 b1 b2 b3 bf
            obtain ⟨b0, b1, b2, b3, bf⟩ := Blk.v4 Y11
            refine wpAnyH_ready (rs := [9]) (by kernel_rfl) (by simp) ?_
            refine AllReadyH.cons (o := ?of43_9) ?hof43_9 (fun K hK => ?stepf43_9) AllReadyH.nil
            case hof43_9 => simp only [List.getElem?_toArray, List.getElem?_cons_succ, List.getElem?_cons_zero]; exact rfl
            go_simp
            refine hK.out _ _ (HS.put hg11) (fun HS => ?_)
            clear hK K
            try simp only [Act.put, List.setIfInBounds_toArray, List.set_cons_zero, List.set_cons_succ]
            obtain ⟨V46, hV46, HS⟩ : ∃ V, V = _ ∧ HdS w a b x y V := ⟨_, rfl, HS⟩
            rw [← hV46]
            have X11 := Blk.put4 Y11 (.int .i64 (vk yz)) (.int .i64 (vn yz)) (.string (str (vs yz))) (.int .u64 ((vf yz : Nat) : Int))
            have X10 := Blk.far4 Y10 hnn (.int .i64 (vk yz)) (.int .i64 (vn yz)) (.string (str (vs yz))) (.int .u64 ((vf yz : Nat) : Int))
            rw [← hV46] at X10 X11
            clear hV46
            refine wpAnyH_done (by kernel_rfl) ?_ _
            go_wp2_with fail
            go_meet
            exact ⟨_, _, rfl, rfl, HS, X10, X11⟩
      case stepf3_7 =>
        have hltV47 := Blk.lt HS.2.2.1
        go_simp
        refine hK.out _ _ (HdS.alc HS _) (fun HS => ?_)
        clear hK K
        try simp only [Act.put, List.setIfInBounds_toArray, List.set_cons_zero, List.set_cons_succ]
        obtain ⟨V47, hV47, HS⟩ : ∃ V, V = _ ∧ HdS w a b x y V := ⟨_, rfl, HS⟩
        rw [← hV47]
        have Z48 : Blk V47 u3W.heap.size 25 #[.int .i64 0, .int .i64 0, .string ⟨#[]⟩, .int .u64 0] := by rw [hV47]; exact Blk.new u3W 25 _
        have hg11 : w.heap.size + 2 < u3W.heap.size := hltV47
        clear hV47
        refine wpAnyH_ready (rs := [5, 6]) (by kernel_rfl) (by simp) ?_
        refine (AllReadyH.cons (o := ?of48_5) ?hof48_5 (fun K hK => ?stepf48_5) (AllReadyH.cons (o := ?of48_6) ?hof48_6 (fun K hK => ?stepf48_6) AllReadyH.nil))
        case hof48_5 => simp only [List.getElem?_toArray, List.getElem?_cons_succ, List.getElem?_cons_zero]; exact rfl
        case hof48_6 => simp only [List.getElem?_toArray, List.getElem?_cons_succ, List.getElem?_cons_zero]; exact rfl
        case stepf48_5 =>
          go_simp
          refine (C6.out _).mono ?_
          rintro e u50W ⟨rfl, hbu50⟩
          refine hK.out _ _ (HdS.step HS hbu50) (fun HS => ?_)
          clear hK K
          try simp only [Act.put, List.setIfInBounds_toArray, List.set_cons_zero, List.set_cons_succ]
          have Z51 := Blk.bel Z48 hbu50 (Blk.lt Z48)
          refine wpAnyH_ready (rs := [6]) (by kernel_rfl) (by simp) ?_
          refine (AllReadyH.cons (o := ?of51_6) ?hof51_6 (fun K hK => ?stepf51_6) AllReadyH.nil)
          case hof51_6 => simp only [List.getElem?_toArray, List.getElem?_cons_succ, List.getElem?_cons_zero]; exact rfl
          case stepf51_6 =>
            have hltV53 := Blk.lt HS.2.2.1
            go_simp
            refine hK.out _ _ (HdS.alc HS _) (fun HS => ?_)
            clear hK K
            try simp only [Act.put, List.setIfInBounds_toArray, List.set_cons_zero, List.set_cons_succ]
            obtain ⟨V53, hV53, HS⟩ : ∃ V, V = _ ∧ HdS w a b x y V := ⟨_, rfl, HS⟩
            rw [← hV53]
            have Z54 : Blk V53 u3W.heap.size 25 #[.int .i64 0, .int .i64 0, .string ⟨#[]⟩, .int .u64 0] := by rw [hV53]; exact Blk.old Z51 _
            have Z55 : Blk V53 u50W.heap.size 25 #[.int .i64 0, .int .i64 0, .string ⟨#[]⟩, .int .u64 0] := by rw [hV53]; exact Blk.new u50W 25 _
            have hg10 : w.heap.size + 2 < u50W.heap.size := hltV53
            have hnn : u50W.heap.size ≠ u3W.heap.size := by have h1 := Blk.lt Z51; omega
            clear hV53
            obtain ⟨a0, a1, a2, a3, af⟩ := Blk.v4 Z55
            obtain ⟨b0, b1, b2, b3, bf⟩ := Blk.v4 Z54
            refine wpAnyH_ready (rs := [8]) (by kernel_rfl) (by simp) ?_
            refine AllReadyH.cons (o := ?of55_8) ?hof55_8 (fun K hK => ?stepf55_8) AllReadyH.nil
            case hof55_8 => simp only [List.getElem?_toArray, List.getElem?_cons_succ, List.getElem?_cons_zero]; exact rfl
            go_simp
            refine hK.out _ _ (HS.put hg10) (fun HS => ?_)
            clear hK K
            try simp only [Act.put, List.setIfInBounds_toArray, List.set_cons_zero, List.set_cons_succ]
            obtain ⟨V57, hV57, HS⟩ : ∃ V, V = _ ∧ HdS w a b x y V := ⟨_, rfl, HS⟩
            rw [← hV57]
            have Y10 := Blk.put4 Z55 (.int .i64 (vk xz)) (.int .i64 (vn xz)) (.string (str (vs xz))) (.int .u64 ((vf xz : Nat) : Int))
            have Y11 := Blk.far4 Z54 (fun e => hnn e.symm) (.int .i64 (vk xz)) (.int .i64 (vn xz)) (.string (str (vs xz))) (.int .u64 ((vf xz : Nat) : Int))
            rw [← hV57] at Y10 Y11
            clear hV57 a0 a1 a2 a3 af b0 b1 b2 b3 bf
            obtain ⟨b0, b1, b2, b3, bf⟩ := Blk.v4 Y11
            refine wpAnyH_ready (rs := [9]) (by kernel_rfl) (by simp) ?_
            refine AllReadyH.cons (o := ?of55_9) ?hof55_9 (fun K hK => ?stepf55_9) AllReadyH.nil
            case hof55_9 => simp only [List.getElem?_toArray, List.getElem?_cons_succ, List.getElem?_cons_zero]; exact rfl
            go_simp
            refine hK.out _ _ (HS.put hg11) (fun HS => ?_)
            clear hK K
            try simp only [Act.put, List.setIfInBounds_toArray, List.set_cons_zero, List.set_cons_succ]
            obtain ⟨V58, hV58, HS⟩ : ∃ V, V = _ ∧ HdS w a b x y V := ⟨_, rfl, HS⟩
            rw [← hV58]
            have X11 := Blk.put4 Y11 (.int .i64 (vk yz)) (.int .i64 (vn yz)) (.string (str (vs yz))) (.int .u64 ((vf yz : Nat) : Int))
            have X10 := Blk.far4 Y10 hnn (.int .i64 (vk yz)) (.int .i64 (vn yz)) (.string (str (vs yz))) (.int .u64 ((vf yz : Nat) : Int))
            rw [← hV58] at X10 X11
            clear hV58
            refine wpAnyH_done (by kernel_rfl) ?_ _
            go_wp2_with fail
            go_meet
            exact ⟨_, _, rfl, rfl, HS, X10, X11⟩
        case stepf48_6 =>
          have hltV59 := Blk.lt HS.2.2.1
          go_simp
          refine hK.out _ _ (HdS.alc HS _) (fun HS => ?_)
          clear hK K
          try simp only [Act.put, List.setIfInBounds_toArray, List.set_cons_zero, List.set_cons_succ]
          obtain ⟨V59, hV59, HS⟩ : ∃ V, V = _ ∧ HdS w a b x y V := ⟨_, rfl, HS⟩
          rw [← hV59]
          have Z60 : Blk V59 u3W.heap.size 25 #[.int .i64 0, .int .i64 0, .string ⟨#[]⟩, .int .u64 0] := by rw [hV59]; exact Blk.old Z48 _
          have Z61 : Blk V59 V47.heap.size 25 #[.int .i64 0, .int .i64 0, .string ⟨#[]⟩, .int .u64 0] := by rw [hV59]; exact Blk.new V47 25 _
          have hg10 : w.heap.size + 2 < V47.heap.size := hltV59
          have hnn : V47.heap.size ≠ u3W.heap.size := by have h1 := Blk.lt Z48; omega
          clear hV59
          refine wpAnyH_ready (rs := [5]) (by kernel_rfl) (by simp) ?_
          refine (AllReadyH.cons (o := ?of61_5) ?hof61_5 (fun K hK => ?stepf61_5) AllReadyH.nil)
          case hof61_5 => simp only [List.getElem?_toArray, List.getElem?_cons_succ, List.getElem?_cons_zero]; exact rfl
          case stepf61_5 =>
            go_simp
            refine (C6.out _).mono ?_
            rintro e u63W ⟨rfl, hbu63⟩
            refine hK.out _ _ (HdS.step HS hbu63) (fun HS => ?_)
            clear hK K
            try simp only [Act.put, List.setIfInBounds_toArray, List.set_cons_zero, List.set_cons_succ]
            have Z64 := Blk.bel Z60 hbu63 (Blk.lt Z60)
            have Z65 := Blk.bel Z61 hbu63 (Blk.lt Z61)
            obtain ⟨a0, a1, a2, a3, af⟩ := Blk.v4 Z65
            obtain ⟨b0, b1, b2, b3, bf⟩ := Blk.v4 Z64
            refine wpAnyH_ready (rs := [8]) (by kernel_rfl) (by simp) ?_
            refine AllReadyH.cons (o := ?of65_8) ?hof65_8 (fun K hK => ?stepf65_8) AllReadyH.nil
            case hof65_8 => simp only [List.getElem?_toArray, List.getElem?_cons_succ, List.getElem?_cons_zero]; exact rfl
            go_simp
            refine hK.out _ _ (HS.put hg10) (fun HS => ?_)
            clear hK K
            try simp only [Act.put, List.setIfInBounds_toArray, List.set_cons_zero, List.set_cons_succ]
            obtain ⟨V67, hV67, HS⟩ : ∃ V, V = _ ∧ HdS w a b x y V := ⟨_, rfl, HS⟩
            rw [← hV67]
            have Y10 := Blk.put4 Z65 (.int .i64 (vk xz)) (.int .i64 (vn xz)) (.string (str (vs xz))) (.int .u64 ((vf xz : Nat) : Int))
            have Y11 := Blk.far4 Z64 (fun e => hnn e.symm) (.int .i64 (vk xz)) (.int .i64 (vn xz)) (.string (str (vs xz))) (.int .u64 ((vf xz : Nat) : Int))
            rw [← hV67] at Y10 Y11
            clear hV67 a0 a1 a2 a3 af b0 b1 b2 b3 bf
            obtain ⟨b0, b1, b2, b3, bf⟩ := Blk.v4 Y11
            refine wpAnyH_ready (rs := [9]) (by kernel_rfl) (by simp) ?_
            refine AllReadyH.cons (o := ?of65_9) ?hof65_9 (fun K hK => ?stepf65_9) AllReadyH.nil
            case hof65_9 => simp only [List.getElem?_toArray, List.getElem?_cons_succ, List.getElem?_cons_zero]; exact rfl
            go_simp
            refine hK.out _ _ (HS.put hg11) (fun HS => ?_)
            clear hK K
            try simp only [Act.put, List.setIfInBounds_toArray, List.set_cons_zero, List.set_cons_succ]
            obtain ⟨V68, hV68, HS⟩ : ∃ V, V = _ ∧ HdS w a b x y V := ⟨_, rfl, HS⟩
            rw [← hV68]
            have X11 := Blk.put4 Y11 (.int .i64 (vk yz)) (.int .i64 (vn yz)) (.string (str (vs yz))) (.int .u64 ((vf yz : Nat) : Int))
            have X10 := Blk.far4 Y10 hnn (.int .i64 (vk yz)) (.int .i64 (vn yz)) (.string (str (vs yz))) (.int .u64 ((vf yz : Nat) : Int))
            rw [← hV68] at X10 X11
            clear hV68
            refine wpAnyH_done (by kernel_rfl) ?_ _
            go_wp2_with fail
            go_meet
            exact ⟨_, _, rfl, rfl, HS, X10, X11⟩
    case stepf1_6 =>
      have hltV69 := Blk.lt HS.2.2.1
      go_simp
      refine hK.out _ _ (HdS.alc HS _) (fun HS => ?_)
      clear hK K
      try simp only [Act.put, List.setIfInBounds_toArray, List.set_cons_zero, List.set_cons_succ]
      obtain ⟨V69, hV69, HS⟩ : ∃ V, V = _ ∧ HdS w a b x y V := ⟨_, rfl, HS⟩
      rw [← hV69]
      have Z70 : Blk V69 V1.heap.size 25 #[.int .i64 0, .int .i64 0, .string ⟨#[]⟩, .int .u64 0] := by rw [hV69]; exact Blk.new V1 25 _
      have hg10 : w.heap.size + 2 < V1.heap.size := hltV69
      clear hV69
      refine wpAnyH_ready (rs := [2, 7]) (by kernel_rfl) (by simp) ?_
      refine (AllReadyH.cons (o := ?of70_2) ?hof70_2 (fun K hK => ?stepf70_2) (AllReadyH.cons (o := ?of70_7) ?hof70_7 (fun K hK => ?stepf70_7) AllReadyH.nil))
      case hof70_2 => simp only [List.getElem?_toArray, List.getElem?_cons_succ, List.getElem?_cons_zero]; exact rfl
      case hof70_7 => simp only [List.getElem?_toArray, List.getElem?_cons_succ, List.getElem?_cons_zero]; exact rfl
      case stepf70_2 =>
        go_simp
        refine (C5.out _).mono ?_
        rintro e u72W ⟨rfl, hbu72⟩
        refine hK.out _ _ (HdS.step HS hbu72) (fun HS => ?_)
        clear hK K
        try simp only [Act.put, List.setIfInBounds_toArray, List.set_cons_zero, List.set_cons_succ]
        have Z73 := Blk.bel Z70 hbu72 (Blk.lt Z70)
        refine wpAnyH_ready (rs := [5, 7]) (by kernel_rfl) (by simp) ?_
        refine (AllReadyH.cons (o := ?of73_5) ?hof73_5 (fun K hK => ?stepf73_5) (AllReadyH.cons (o := ?of73_7) ?hof73_7 (fun K hK => ?stepf73_7) AllReadyH.nil))
        case hof73_5 => simp only [List.getElem?_toArray, List.getElem?_cons_succ, List.getElem?_cons_zero]; exact rfl
        case hof73_7 => simp only [List.getElem?_toArray, List.getElem?_cons_succ, List.getElem?_cons_zero]; exact rfl
        case stepf73_5 =>
          go_simp
          refine (C6.out _).mono ?_
          rintro e u75W ⟨rfl, hbu75⟩
          refine hK.out _ _ (HdS.step HS hbu75) (fun HS => ?_)
          clear hK K
          try simp only [Act.put, List.setIfInBounds_toArray, List.set_cons_zero, List.set_cons_succ]
          have Z76 := Blk.bel Z73 hbu75 (Blk.lt Z73)
          refine wpAnyH_ready (rs := [7]) (by kernel_rfl) (by simp) ?_
          refine (AllReadyH.cons (o := ?of76_7) ?hof76_7 (fun K hK => ?stepf76_7) AllReadyH.nil)
          case hof76_7 => simp only [List.getElem?_toArray, List.getElem?_cons_succ, List.getElem?_cons_zero]; exact rfl
          case stepf76_7 =>
            have hltV78 := Blk.lt HS.2.2.1
            go_simp
            refine hK.out _ _ (HdS.alc HS _) (fun HS => ?_)
            clear hK K
            try simp only [Act.put, List.setIfInBounds_toArray, List.set_cons_zero, List.set_cons_succ]
            obtain ⟨V78, hV78, HS⟩ : ∃ V, V = _ ∧ HdS w a b x y V := ⟨_, rfl, HS⟩
            rw [← hV78]
            have Z79 : Blk V78 V1.heap.size 25 #[.int .i64 0, .int .i64 0, .string ⟨#[]⟩, .int .u64 0] := by rw [hV78]; exact Blk.old Z76 _
            have Z80 : Blk V78 u75W.heap.size 25 #[.int .i64 0, .int .i64 0, .string ⟨#[]⟩, .int .u64 0] := by rw [hV78]; exact Blk.new u75W 25 _
            have hg11 : w.heap.size + 2 < u75W.heap.size := hltV78
            have hnn : V1.heap.size ≠ u75W.heap.size := by have h1 := Blk.lt Z76; omega
            clear hV78
            obtain ⟨a0, a1, a2, a3, af⟩ := Blk.v4 Z79
            obtain ⟨b0, b1, b2, b3, bf⟩ := Blk.v4 Z80
            refine wpAnyH_ready (rs := [8]) (by kernel_rfl) (by simp) ?_
            refine AllReadyH.cons (o := ?of80_8) ?hof80_8 (fun K hK => ?stepf80_8) AllReadyH.nil
            case hof80_8 => simp only [List.getElem?_toArray, List.getElem?_cons_succ, List.getElem?_cons_zero]; exact rfl
            go_simp
            refine hK.out _ _ (HS.put hg10) (fun HS => ?_)
            clear hK K
            try simp only [Act.put, List.setIfInBounds_toArray, List.set_cons_zero, List.set_cons_succ]
            obtain ⟨V82, hV82, HS⟩ : ∃ V, V = _ ∧ HdS w a b x y V := ⟨_, rfl, HS⟩
            rw [← hV82]
            have Y10 := Blk.put4 Z79 (.int .i64 (vk xz)) (.int .i64 (vn xz)) (.string (str (vs xz))) (.int .u64 ((vf xz : Nat) : Int))
            have Y11 := Blk.far4 Z80 (fun e => hnn e.symm) (.int .i64 (vk xz)) (.int .i64 (vn xz)) (.string (str (vs xz))) (.int .u64 ((vf xz : Nat) : Int))
            rw [← hV82] at Y10 Y11
            clear hV82 a0 a1 a2 a3 af b0 b1 b2 b3 bf
            obtain ⟨b0, b1, b2, b3, bf⟩ := Blk.v4 Y11
            refine wpAnyH_ready (rs := [9]) (by kernel_rfl) (by simp) ?_
            refine AllReadyH.cons (o := ?of80_9) ?hof80_9 (fun K hK => ?stepf80_9) AllReadyH.nil
            case hof80_9 => simp only [List.getElem?_toArray, List.getElem?_cons_succ, List.getElem?_cons_zero]; exact rfl
            go_simp
            refine hK.out _ _ (HS.put hg11) (fun HS => ?_)
            clear hK K
            try simp only [Act.put, List.setIfInBounds_toArray, List.set_cons_zero, List.set_cons_succ]
            obtain ⟨V83, hV83, HS⟩ : ∃ V, V = _ ∧ HdS w a b x y V := ⟨_, rfl, HS⟩
            rw [← hV83]
            have X11 := Blk.put4 Y11 (.int .i64 (vk yz)) (.int .i64 (vn yz)) (.string (str (vs yz))) (.int .u64 ((vf yz : Nat) : Int))
            have X10 := Blk.far4 Y10 hnn (.int .i64 (vk yz)) (.int .i64 (vn yz)) (.string (str (vs yz))) (.int .u64 ((vf yz : Nat) : Int))
            rw [← hV83] at X10 X11
            clear hV83
            refine wpAnyH_done (by kernel_rfl) ?_ _
            go_wp2_with fail
            go_meet
            exact ⟨_, _, rfl, rfl, HS, X10, X11⟩
        case stepf73_7 =>
          have hltV84 := Blk.lt HS.2.2.1
          go_simp
          refine hK.out _ _ (HdS.alc HS _) (fun HS => ?_)
          clear hK K
          try simp only [Act.put, List.setIfInBounds_toArray, List.set_cons_zero, List.set_cons_succ]
          obtain ⟨V84, hV84, HS⟩ : ∃ V, V = _ ∧ HdS w a b x y V := ⟨_, rfl, HS⟩
          rw [← hV84]
          have Z85 : Blk V84 V1.heap.size 25 #[.int .i64 0, .int .i64 0, .string ⟨#[]⟩, .int .u64 0] := by rw [hV84]; exact Blk.old Z73 _
          have Z86 : Blk V84 u72W.heap.size 25 #[.int .i64 0, .int .i64 0, .string ⟨#[]⟩, .int .u64 0] := by rw [hV84]; exact Blk.new u72W 25 _
          have hg11 : w.heap.size + 2 < u72W.heap.size := hltV84
          have hnn : V1.heap.size ≠ u72W.heap.size := by have h1 := Blk.lt Z73; omega
          clear hV84
          refine wpAnyH_ready (rs := [5]) (by kernel_rfl) (by simp) ?_
          refine (AllReadyH.cons (o := ?of86_5) ?hof86_5 (fun K hK => ?stepf86_5) AllReadyH.nil)
          case hof86_5 => simp only [List.getElem?_toArray, List.getElem?_cons_succ, List.getElem?_cons_zero]; exact rfl
          case stepf86_5 =>
            go_simp
            refine (C6.out _).mono ?_
            rintro e u88W ⟨rfl, hbu88⟩
            refine hK.out _ _ (HdS.step HS hbu88) (fun HS => ?_)
            clear hK K
            try simp only [Act.put, List.setIfInBounds_toArray, List.set_cons_zero, List.set_cons_succ]
            have Z89 := Blk.bel Z85 hbu88 (Blk.lt Z85)
            have Z90 := Blk.bel Z86 hbu88 (Blk.lt Z86)
            obtain ⟨a0, a1, a2, a3, af⟩ := Blk.v4 Z89
            obtain ⟨b0, b1, b2, b3, bf⟩ := Blk.v4 Z90
            refine wpAnyH_ready (rs := [8]) (by kernel_rfl) (by simp) ?_
            refine AllReadyH.cons (o := ?of90_8) ?hof90_8 (fun K hK => ?stepf90_8) AllReadyH.nil
            case hof90_8 => simp only [List.getElem?_toArray, List.getElem?_cons_succ, List.getElem?_cons_zero]; exact rfl
            go_simp
            refine hK.out _ _ (HS.put hg10) (fun HS => ?_)
            clear hK K
            try simp only [Act.put, List.setIfInBounds_toArray, List.set_cons_zero, List.set_cons_succ]
            obtain ⟨V92, hV92, HS⟩ : ∃ V, V = _ ∧ HdS w a b x y V := ⟨_, rfl, HS⟩
            rw [← hV92]
            have Y10 := Blk.put4 Z89 (.int .i64 (vk xz)) (.int .i64 (vn xz)) (.string (str (vs xz))) (.int .u64 ((vf xz : Nat) : Int))
            have Y11 := Blk.far4 Z90 (fun e => hnn e.symm) (.int .i64 (vk xz)) (.int .i64 (vn xz)) (.string (str (vs xz))) (.int .u64 ((vf xz : Nat) : Int))
            rw [← hV92] at Y10 Y11
            clear hV92 a0 a1 a2 a3 af b0 b1 b2 b3 bf
            obtain ⟨b0, b1, b2, b3, bf⟩ := Blk.v4 Y11
            refine wpAnyH_ready (rs := [9]) (by kernel_rfl) (by simp) ?_
            refine AllReadyH.cons (o := ?of90_9) ?hof90_9 (fun K hK => ?stepf90_9) AllReadyH.nil
            case hof90_9 => simp only [List.getElem?_toArray, List.getElem?_cons_succ, List.getElem?_cons_zero]; exact rfl
            go_simp
            refine hK.out _ _ (HS.put hg11) (fun HS => ?_)
            clear hK K
            try simp only [Act.put, List.setIfInBounds_toArray, List.set_cons_zero, List.set_cons_succ]
            obtain ⟨V93, hV93, HS⟩ : ∃ V, V = _ ∧ HdS w a b x y V := ⟨_, rfl, HS⟩
            rw [← hV93]
            have X11 := Blk.put4 Y11 (.int .i64 (vk yz)) (.int .i64 (vn yz)) (.string (str (vs yz))) (.int .u64 ((vf yz : Nat) : Int))
            have X10 := Blk.far4 Y10 hnn (.int .i64 (vk yz)) (.int .i64 (vn yz)) (.string (str (vs yz))) (.int .u64 ((vf yz : Nat) : Int))
            rw [← hV93] at X10 X11
            clear hV93
            refine wpAnyH_done (by kernel_rfl) ?_ _
            go_wp2_with fail
            go_meet
            exact ⟨_, _, rfl, rfl, HS, X10, X11⟩
      case stepf70_7 =>
        have hltV94 := Blk.lt HS.2.2.1
        go_simp
        refine hK.out _ _ (HdS.alc HS _) (fun HS => ?_)
        clear hK K
        try simp only [Act.put, List.setIfInBounds_toArray, List.set_cons_zero, List.set_cons_succ]
        obtain ⟨V94, hV94, HS⟩ : ∃ V, V = _ ∧ HdS w a b x y V := ⟨_, rfl, HS⟩
        rw [← hV94]
        have Z95 : Blk V94 V1.heap.size 25 #[.int .i64 0, .int .i64 0, .string ⟨#[]⟩, .int .u64 0] := by rw [hV94]; exact Blk.old Z70 _
        have Z96 : Blk V94 V69.heap.size 25 #[.int .i64 0, .int .i64 0, .string ⟨#[]⟩, .int .u64 0] := by rw [hV94]; exact Blk.new V69 25 _
        have hg11 : w.heap.size + 2 < V69.heap.size := hltV94
        have hnn : V1.heap.size ≠ V69.heap.size := by have h1 := Blk.lt Z70; omega
        clear hV94
        refine wpAnyH_ready (rs := [2]) (by kernel_rfl) (by simp) ?_
        refine (AllReadyH.cons (o := ?of96_2) ?hof96_2 (fun K hK => ?stepf96_2) AllReadyH.nil)
        case hof96_2 => simp only [List.getElem?_toArray, List.getElem?_cons_succ, List.getElem?_cons_zero]; exact rfl
        case stepf96_2 =>
          go_simp
          refine (C5.out _).mono ?_
          rintro e u98W ⟨rfl, hbu98⟩
          refine hK.out _ _ (HdS.step HS hbu98) (fun HS => ?_)
          clear hK K
          try simp only [Act.put, List.setIfInBounds_toArray, List.set_cons_zero, List.set_cons_succ]
          have Z99 := Blk.bel Z95 hbu98 (Blk.lt Z95)
          have Z100 := Blk.bel Z96 hbu98 (Blk.lt Z96)
          refine wpAnyH_ready (rs := [5]) (by kernel_rfl) (by simp) ?_
          refine (AllReadyH.cons (o := ?of100_5) ?hof100_5 (fun K hK => ?stepf100_5) AllReadyH.nil)
          case hof100_5 => simp only [List.getElem?_toArray, List.getElem?_cons_succ, List.getElem?_cons_zero]; exact rfl
          case stepf100_5 =>
            go_simp
            refine (C6.out _).mono ?_
            rintro e u102W ⟨rfl, hbu102⟩
            refine hK.out _ _ (HdS.step HS hbu102) (fun HS => ?_)
            clear hK K
            try simp only [Act.put, List.setIfInBounds_toArray, List.set_cons_zero, List.set_cons_succ]
            have Z103 := Blk.bel Z99 hbu102 (Blk.lt Z99)
            have Z104 := Blk.bel Z100 hbu102 (Blk.lt Z100)
            obtain ⟨a0, a1, a2, a3, af⟩ := Blk.v4 Z103
            obtain ⟨b0, b1, b2, b3, bf⟩ := Blk.v4 Z104
            refine wpAnyH_ready (rs := [8]) (by kernel_rfl) (by simp) ?_
            refine AllReadyH.cons (o := ?of104_8) ?hof104_8 (fun K hK => ?stepf104_8) AllReadyH.nil
            case hof104_8 => simp only [List.getElem?_toArray, List.getElem?_cons_succ, List.getElem?_cons_zero]; exact rfl
            go_simp
            refine hK.out _ _ (HS.put hg10) (fun HS => ?_)
            clear hK K
            try simp only [Act.put, List.setIfInBounds_toArray, List.set_cons_zero, List.set_cons_succ]
            obtain ⟨V106, hV106, HS⟩ : ∃ V, V = _ ∧ HdS w a b x y V := ⟨_, rfl, HS⟩
            rw [← hV106]
            have Y10 := Blk.put4 Z103 (.int .i64 (vk xz)) (.int .i64 (vn xz)) (.string (str (vs xz))) (.int .u64 ((vf xz : Nat) : Int))
            have Y11 := Blk.far4 Z104 (fun e => hnn e.symm) (.int .i64 (vk xz)) (.int .i64 (vn xz)) (.string (str (vs xz))) (.int .u64 ((vf xz : Nat) : Int))
            rw [← hV106] at Y10 Y11
            clear hV106 a0 a1 a2 a3 af b0 b1 b2 b3 bf
            obtain ⟨b0, b1, b2, b3, bf⟩ := Blk.v4 Y11
            refine wpAnyH_ready (rs := [9]) (by kernel_rfl) (by simp) ?_
            refine AllReadyH.cons (o := ?of104_9) ?hof104_9 (fun K hK => ?stepf104_9) AllReadyH.nil
            case hof104_9 => simp only [List.getElem?_toArray, List.getElem?_cons_succ, List.getElem?_cons_zero]; exact rfl
            go_simp
            refine hK.out _ _ (HS.put hg11) (fun HS => ?_)
            clear hK K
            try simp only [Act.put, List.setIfInBounds_toArray, List.set_cons_zero, List.set_cons_succ]
            obtain ⟨V107, hV107, HS⟩ : ∃ V, V = _ ∧ HdS w a b x y V := ⟨_, rfl, HS⟩
            rw [← hV107]
            have X11 := Blk.put4 Y11 (.int .i64 (vk yz)) (.int .i64 (vn yz)) (.string (str (vs yz))) (.int .u64 ((vf yz : Nat) : Int))
            have X10 := Blk.far4 Y10 hnn (.int .i64 (vk yz)) (.int .i64 (vn yz)) (.string (str (vs yz))) (.int .u64 ((vf yz : Nat) : Int))
            rw [← hV107] at X10 X11
            clear hV107
            refine wpAnyH_done (by kernel_rfl) ?_ _
            go_wp2_with fail
            go_meet
            exact ⟨_, _, rfl, rfl, HS, X10, X11⟩
    case stepf1_7 =>
      have hltV108 := Blk.lt HS.2.2.1
      go_simp
      refine hK.out _ _ (HdS.alc HS _) (fun HS => ?_)
      clear hK K
      try simp only [Act.put, List.setIfInBounds_toArray, List.set_cons_zero, List.set_cons_succ]
      obtain ⟨V108, hV108, HS⟩ : ∃ V, V = _ ∧ HdS w a b x y V := ⟨_, rfl, HS⟩
      rw [← hV108]
      have Z109 : Blk V108 V1.heap.size 25 #[.int .i64 0, .int .i64 0, .string ⟨#[]⟩, .int .u64 0] := by rw [hV108]; exact Blk.new V1 25 _
      have hg11 : w.heap.size + 2 < V1.heap.size := hltV108
      clear hV108
      refine wpAnyH_ready (rs := [2, 6]) (by kernel_rfl) (by simp) ?_
      refine (AllReadyH.cons (o := ?of109_2) ?hof109_2 (fun K hK => ?stepf109_2) (AllReadyH.cons (o := ?of109_6) ?hof109_6 (fun K hK => ?stepf109_6) AllReadyH.nil))
      case hof109_2 => simp only [List.getElem?_toArray, List.getElem?_cons_succ, List.getElem?_cons_zero]; exact rfl
      case hof109_6 => simp only [List.getElem?_toArray, List.getElem?_cons_succ, List.getElem?_cons_zero]; exact rfl
      case stepf109_2 =>
        go_simp
        refine (C5.out _).mono ?_
        rintro e u111W ⟨rfl, hbu111⟩
        refine hK.out _ _ (HdS.step HS hbu111) (fun HS => ?_)
        clear hK K
        try simp only [Act.put, List.setIfInBounds_toArray, List.set_cons_zero, List.set_cons_succ]
        have Z112 := Blk.bel Z109 hbu111 (Blk.lt Z109)
        refine wpAnyH_ready (rs := [5, 6]) (by kernel_rfl) (by simp) ?_
        refine (AllReadyH.cons (o := ?of112_5) ?hof112_5 (fun K hK => ?stepf112_5) (AllReadyH.cons (o := ?of112_6) ?hof112_6 (fun K hK => ?stepf112_6) AllReadyH.nil))
        case hof112_5 => simp only [List.getElem?_toArray, List.getElem?_cons_succ, List.getElem?_cons_zero]; exact rfl
        case hof112_6 => simp only [List.getElem?_toArray, List.getElem?_cons_succ, List.getElem?_cons_zero]; exact rfl
        case stepf112_5 =>
          go_simp
          refine (C6.out _).mono ?_
          rintro e u114W ⟨rfl, hbu114⟩
          refine hK.out _ _ (HdS.step HS hbu114) (fun HS => ?_)
          clear hK K
          try simp only [Act.put, List.setIfInBounds_toArray, List.set_cons_zero, List.set_cons_succ]
          have Z115 := Blk.bel Z112 hbu114 (Blk.lt Z112)
          refine wpAnyH_ready (rs := [6]) (by kernel_rfl) (by simp) ?_
          refine (AllReadyH.cons (o := ?of115_6) ?hof115_6 (fun K hK => ?stepf115_6) AllReadyH.nil)
          case hof115_6 => simp only [List.getElem?_toArray, List.getElem?_cons_succ, List.getElem?_cons_zero]; exact rfl
          case stepf115_6 =>
            have hltV117 := Blk.lt HS.2.2.1
            go_simp
            refine hK.out _ _ (HdS.alc HS _) (fun HS => ?_)
            clear hK K
            try simp only [Act.put, List.setIfInBounds_toArray, List.set_cons_zero, List.set_cons_succ]
            obtain ⟨V117, hV117, HS⟩ : ∃ V, V = _ ∧ HdS w a b x y V := ⟨_, rfl, HS⟩
            rw [← hV117]
            have Z118 : Blk V117 V1.heap.size 25 #[.int .i64 0, .int .i64 0, .string ⟨#[]⟩, .int .u64 0] := by rw [hV117]; exact Blk.old Z115 _
            have Z119 : Blk V117 u114W.heap.size 25 #[.int .i64 0, .int .i64 0, .string ⟨#[]⟩, .int .u64 0] := by rw [hV117]; exact Blk.new u114W 25 _
            have hg10 : w.heap.size + 2 < u114W.heap.size := hltV117
            have hnn : u114W.heap.size ≠ V1.heap.size := by have h1 := Blk.lt Z115; omega
            clear hV117
            obtain ⟨a0, a1, a2, a3, af⟩ := Blk.v4 Z119
            obtain ⟨b0, b1, b2, b3, bf⟩ := Blk.v4 Z118
            refine wpAnyH_ready (rs := [8]) (by kernel_rfl) (by simp) ?_
            refine AllReadyH.cons (o := ?of119_8) ?hof119_8 (fun K hK => ?stepf119_8) AllReadyH.nil
            case hof119_8 => simp only [List.getElem?_toArray, List.getElem?_cons_succ, List.getElem?_cons_zero]; exact rfl
            go_simp
            refine hK.out _ _ (HS.put hg10) (fun HS => ?_)
            clear hK K
            try simp only [Act.put, List.setIfInBounds_toArray, List.set_cons_zero, List.set_cons_succ]
            obtain ⟨V121, hV121, HS⟩ : ∃ V, V = _ ∧ HdS w a b x y V := ⟨_, rfl, HS⟩
            rw [← hV121]
            have Y10 := Blk.put4 Z119 (.int .i64 (vk xz)) (.int .i64 (vn xz)) (.string (str (vs xz))) (.int .u64 ((vf xz : Nat) : Int))
            have Y11 := Blk.far4 Z118 (fun e => hnn e.symm) (.int .i64 (vk xz)) (.int .i64 (vn xz)) (.string (str (vs xz))) (.int .u64 ((vf xz : Nat) : Int))
            rw [← hV121] at Y10 Y11
            clear hV121 a0 a1 a2 a3 af b0 b1 b2 b3 bf
            obtain ⟨b0, b1, b2, b3, bf⟩ := Blk.v4 Y11
            refine wpAnyH_ready (rs := [9]) (by kernel_rfl) (by simp) ?_
            refine AllReadyH.cons (o := ?of119_9) ?hof119_9 (fun K hK => ?stepf119_9) AllReadyH.nil
            case hof119_9 => simp only [List.getElem?_toArray, List.getElem?_cons_succ, List.getElem?_cons_zero]; exact rfl
            go_simp
            refine hK.out _ _ (HS.put hg11) (fun HS => ?_)
            clear hK K
            try simp only [Act.put, List.setIfInBounds_toArray, List.set_cons_zero, List.set_cons_succ]
            obtain ⟨V122, hV122, HS⟩ : ∃ V, V = _ ∧ HdS w a b x y V := ⟨_, rfl, HS⟩
            rw [← hV122]
            have X11 := Blk.put4 Y11 (.int .i64 (vk yz)) (.int .i64 (vn yz)) (.string (str (vs yz))) (.int .u64 ((vf yz : Nat) : Int))
            have X10 := Blk.far4 Y10 hnn (.int .i64 (vk yz)) (.int .i64 (vn yz)) (.string (str (vs yz))) (.int .u64 ((vf yz : Nat) : Int))
            rw [← hV122] at X10 X11
            clear hV122
            refine wpAnyH_done (by kernel_rfl) ?_ _
            go_wp2_with fail
            go_meet
            exact ⟨_, _, rfl, rfl, HS, X10, X11⟩
        case stepf112_6 =>
          have hltV123 := Blk.lt HS.2.2.1
          go_simp
          refine hK.out _ _ (HdS.alc HS _) (fun HS => ?_)
          clear hK K
          try simp only [Act.put, List.setIfInBounds_toArray, List.set_cons_zero, List.set_cons_succ]
          obtain ⟨V123, hV123, HS⟩ : ∃ V, V = _ ∧ HdS w a b x y V := ⟨_, rfl, HS⟩
          rw [← hV123]
          have Z124 : Blk V123 V1.heap.size 25 #[.int .i64 0, .int .i64 0, .string ⟨#[]⟩, .int .u64 0] := by rw [hV123]; exact Blk.old Z112 _
          have Z125 : Blk V123 u111W.heap.size 25 #[.int .i64 0, .int .i64 0, .string ⟨#[]⟩, .int .u64 0] := by rw [hV123]; exact Blk.new u111W 25 _
          have hg10 : w.heap.size + 2 < u111W.heap.size := hltV123
          have hnn : u111W.heap.size ≠ V1.heap.size := by have h1 := Blk.lt Z112; omega
          clear hV123
          refine wpAnyH_ready (rs := [5]) (by kernel_rfl) (by simp) ?_
          refine (AllReadyH.cons (o := ?of125_5) ?hof125_5 (fun K hK => ?stepf125_5) AllReadyH.nil)
          case hof125_5 => simp only [List.getElem?_toArray, List.getElem?_cons_succ, List.getElem?_cons_zero]; exact rfl
          case stepf125_5 =>
            go_simp
            refine (C6.out _).mono ?_
            rintro e u127W ⟨rfl, hbu127⟩
            refine hK.out _ _ (HdS.step HS hbu127) (fun HS => ?_)
            clear hK K
            try simp only [Act.put, List.setIfInBounds_toArray, List.set_cons_zero, List.set_cons_succ]
            have Z128 := Blk.bel Z124 hbu127 (Blk.lt Z124)
            have Z129 := Blk.bel Z125 hbu127 (Blk.lt Z125)
            obtain ⟨a0, a1, a2, a3, af⟩ := Blk.v4 Z129
            obtain ⟨b0, b1, b2, b3, bf⟩ := Blk.v4 Z128
            refine wpAnyH_ready (rs := [8]) (by kernel_rfl) (by simp) ?_
            refine AllReadyH.cons (o := ?of129_8) ?hof129_8 (fun K hK => ?stepf129_8) AllReadyH.nil
            case hof129_8 => simp only [List.getElem?_toArray, List.getElem?_cons_succ, List.getElem?_cons_zero]; exact rfl
            go_simp
            refine hK.out _ _ (HS.put hg10) (fun HS => ?_)
            clear hK K
            try simp only [Act.put, List.setIfInBounds_toArray, List.set_cons_zero, List.set_cons_succ]
            obtain ⟨V131, hV131, HS⟩ : ∃ V, V = _ ∧ HdS w a b x y V := ⟨_, rfl, HS⟩
            rw [← hV131]
            have Y10 := Blk.put4 Z129 (.int .i64 (vk xz)) (.int .i64 (vn xz)) (.string (str (vs xz))) (.int .u64 ((vf xz : Nat) : Int))
            have Y11 := Blk.far4 Z128 (fun e => hnn e.symm) (.int .i64 (vk xz)) (.int .i64 (vn xz)) (.string (str (vs xz))) (.int .u64 ((vf xz : Nat) : Int))
            rw [← hV131] at Y10 Y11
            clear hV131 a0 a1 a2 a3 af b0 b1 b2 b3 bf
            obtain ⟨b0, b1, b2, b3, bf⟩ := Blk.v4 Y11
            refine wpAnyH_ready (rs := [9]) (by kernel_rfl) (by simp) ?_
            refine AllReadyH.cons (o := ?of129_9) ?hof129_9 (fun K hK => ?stepf129_9) AllReadyH.nil
            case hof129_9 => simp only [List.getElem?_toArray, List.getElem?_cons_succ, List.getElem?_cons_zero]; exact rfl
            go_simp
            refine hK.out _ _ (HS.put hg11) (fun HS => ?_)
            clear hK K
            try simp only [Act.put, List.setIfInBounds_toArray, List.set_cons_zero, List.set_cons_succ]
            obtain ⟨V132, hV132, HS⟩ : ∃ V, V = _ ∧ HdS w a b x y V := ⟨_, rfl, HS⟩
            rw [← hV132]
            have X11 := Blk.put4 Y11 (.int .i64 (vk yz)) (.int .i64 (vn yz)) (.string (str (vs yz))) (.int .u64 ((vf yz : Nat) : Int))
            have X10 := Blk.far4 Y10 hnn (.int .i64 (vk yz)) (.int .i64 (vn yz)) (.string (str (vs yz))) (.int .u64 ((vf yz : Nat) : Int))
            rw [← hV132] at X10 X11
            clear hV132
            refine wpAnyH_done (by kernel_rfl) ?_ _
            go_wp2_with fail
            go_meet
            exact ⟨_, _, rfl, rfl, HS, X10, X11⟩
      case stepf109_6 =>
        have hltV133 := Blk.lt HS.2.2.1
        go_simp
        refine hK.out _ _ (HdS.alc HS _) (fun HS => ?_)
        clear hK K
        try simp only [Act.put, List.setIfInBounds_toArray, List.set_cons_zero, List.set_cons_succ]
        obtain ⟨V133, hV133, HS⟩ : ∃ V, V = _ ∧ HdS w a b x y V := ⟨_, rfl, HS⟩
        rw [← hV133]
        have Z134 : Blk V133 V1.heap.size 25 #[.int .i64 0, .int .i64 0, .string ⟨#[]⟩, .int .u64 0] := by rw [hV133]; exact Blk.old Z109 _
        have Z135 : Blk V133 V108.heap.size 25 #[.int .i64 0, .int .i64 0, .string ⟨#[]⟩, .int .u64 0] := by rw [hV133]; exact Blk.new V108 25 _
        have hg10 : w.heap.size + 2 < V108.heap.size := hltV133
        have hnn : V108.heap.size ≠ V1.heap.size := by have h1 := Blk.lt Z109; omega
        clear hV133
        refine wpAnyH_ready (rs := [2]) (by kernel_rfl) (by simp) ?_
        refine (AllReadyH.cons (o := ?of135_2) ?hof135_2 (fun K hK => ?stepf135_2) AllReadyH.nil)
        case hof135_2 => simp only [List.getElem?_toArray, List.getElem?_cons_succ, List.getElem?_cons_zero]; exact rfl
        case stepf135_2 =>
          go_simp
          refine (C5.out _).mono ?_
          rintro e u137W ⟨rfl, hbu137⟩
          refine hK.out _ _ (HdS.step HS hbu137) (fun HS => ?_)
          clear hK K
          try simp only [Act.put, List.setIfInBounds_toArray, List.set_cons_zero, List.set_cons_succ]
          have Z138 := Blk.bel Z134 hbu137 (Blk.lt Z134)
          have Z139 := Blk.bel Z135 hbu137 (Blk.lt Z135)
          refine wpAnyH_ready (rs := [5]) (by kernel_rfl) (by simp) ?_
          refine (AllReadyH.cons (o := ?of139_5) ?hof139_5 (fun K hK => ?stepf139_5) AllReadyH.nil)
          case hof139_5 => simp only [List.getElem?_toArray, List.getElem?_cons_succ, List.getElem?_cons_zero]; exact rfl
          case stepf139_5 =>
            go_simp
            refine (C6.out _).mono ?_
            rintro e u141W ⟨rfl, hbu141⟩
            refine hK.out _ _ (HdS.step HS hbu141) (fun HS => ?_)
            clear hK K
            try simp only [Act.put, List.setIfInBounds_toArray, List.set_cons_zero, List.set_cons_succ]
            have Z142 := Blk.bel Z138 hbu141 (Blk.lt Z138)
            have Z143 := Blk.bel Z139 hbu141 (Blk.lt Z139)
            obtain ⟨a0, a1, a2, a3, af⟩ := Blk.v4 Z143
            obtain ⟨b0, b1, b2, b3, bf⟩ := Blk.v4 Z142
            refine wpAnyH_ready (rs := [8]) (by kernel_rfl) (by simp) ?_
            refine AllReadyH.cons (o := ?of143_8) ?hof143_8 (fun K hK => ?stepf143_8) AllReadyH.nil
            case hof143_8 => simp only [List.getElem?_toArray, List.getElem?_cons_succ, List.getElem?_cons_zero]; exact rfl
            go_simp
            refine hK.out _ _ (HS.put hg10) (fun HS => ?_)
            clear hK K
            try simp only [Act.put, List.setIfInBounds_toArray, List.set_cons_zero, List.set_cons_succ]
            obtain ⟨V145, hV145, HS⟩ : ∃ V, V = _ ∧ HdS w a b x y V := ⟨_, rfl, HS⟩
            rw [← hV145]
            have Y10 := Blk.put4 Z143 (.int .i64 (vk xz)) (.int .i64 (vn xz)) (.string (str (vs xz))) (.int .u64 ((vf xz : Nat) : Int))
            have Y11 := Blk.far4 Z142 (fun e => hnn e.symm) (.int .i64 (vk xz)) (.int .i64 (vn xz)) (.string (str (vs xz))) (.int .u64 ((vf xz : Nat) : Int))
            rw [← hV145] at Y10 Y11
            clear hV145 a0 a1 a2 a3 af b0 b1 b2 b3 bf
            obtain ⟨b0, b1, b2, b3, bf⟩ := Blk.v4 Y11
            refine wpAnyH_ready (rs := [9]) (by kernel_rfl) (by simp) ?_
            refine AllReadyH.cons (o := ?of143_9) ?hof143_9 (fun K hK => ?stepf143_9) AllReadyH.nil
            case hof143_9 => simp only [List.getElem?_toArray, List.getElem?_cons_succ, List.getElem?_cons_zero]; exact rfl
            go_simp
            refine hK.out _ _ (HS.put hg11) (fun HS => ?_)
            clear hK K
            try simp only [Act.put, List.setIfInBounds_toArray, List.set_cons_zero, List.set_cons_succ]
            obtain ⟨V146, hV146, HS⟩ : ∃ V, V = _ ∧ HdS w a b x y V := ⟨_, rfl, HS⟩
            rw [← hV146]
            have X11 := Blk.put4 Y11 (.int .i64 (vk yz)) (.int .i64 (vn yz)) (.string (str (vs yz))) (.int .u64 ((vf yz : Nat) : Int))
            have X10 := Blk.far4 Y10 hnn (.int .i64 (vk yz)) (.int .i64 (vn yz)) (.string (str (vs yz))) (.int .u64 ((vf yz : Nat) : Int))
            rw [← hV146] at X10 X11
            clear hV146
            refine wpAnyH_done (by kernel_rfl) ?_ _
            go_wp2_with fail
            go_meet
            exact ⟨_, _, rfl, rfl, HS, X10, X11⟩
  case rest =>
    obtain ⟨g, h, rfl, rfl, HS, X10, X11⟩ := hcut
    clear H6 C5 C6
    have H7 := HZ2.mk HS X10 X11
    have H8 := H7.step (Below.refl _ _).drew
    clear HS X10 X11 H7
    by_cases hk : vk a = vk b
    · have hxy : xz = yz := by rw [HXZ.out.1, HXZ.out.2, hk]
      have d1 : (vk a == vk b) = true := by rw [hk]; simp
      subst hxy
      clear HXZ hk
      go_wp2_with fail
      refine wp_region_held_drew (S := HZ2 w a b x y g h xz xz) (by kernel_rfl) H8 (fun HS => ?_)
      refine wpAnyH_take (i := 0) (oi := ?oil0) (v := ?vl0) ?hil0 (by kernel_rfl) (by kernel_rfl) (by kernel_rfl) ?hQl0 ?hyl0 HS ?restl0
      case hil0 => simp only [List.getElem?_toArray, List.getElem?_cons_zero]; exact rfl
      case hQl0 => exact fun _ _ _ h => h
      case hyl0 =>
        refine Or.inl ⟨by rfl, ?_⟩
        intro wS hSw
        obtain ⟨p0, p1, p2, p3, -⟩ := Blk.v4 hSw.1.1
        obtain ⟨q0, q1, q2, q3, -⟩ := Blk.v4 hSw.1.2.1
        obtain ⟨r0, r1, r2, r3, -⟩ := Blk.v4 hSw.2.1
        obtain ⟨s0, s1, s2, s3, -⟩ := Blk.v4 hSw.2.2
        go_simp
        try with_reducible rfl
      try simp only [Act.put, List.setIfInBounds_toArray, List.set_cons_zero, List.set_cons_succ]
      refine wpAnyH_take (i := 1) (oi := ?oil1) (v := ?vl1) ?hil1 (by kernel_rfl) (by kernel_rfl) (by kernel_rfl) ?hQl1 ?hyl1 HS ?restl1
      case hil1 => simp only [List.getElem?_toArray, List.getElem?_cons_succ, List.getElem?_cons_zero]; exact rfl
      case hQl1 => exact fun _ _ _ h => h
      case hyl1 =>
        refine Or.inl ⟨by rfl, ?_⟩
        intro wS hSw
        obtain ⟨p0, p1, p2, p3, -⟩ := Blk.v4 hSw.1.1
        obtain ⟨q0, q1, q2, q3, -⟩ := Blk.v4 hSw.1.2.1
        obtain ⟨r0, r1, r2, r3, -⟩ := Blk.v4 hSw.2.1
        obtain ⟨s0, s1, s2, s3, -⟩ := Blk.v4 hSw.2.2
        go_simp
        try with_reducible rfl
      try simp only [Act.put, List.setIfInBounds_toArray, List.set_cons_zero, List.set_cons_succ]
      refine wpAnyH_take (i := 2) (oi := ?oil2) (v := ?vl2) ?hil2 (by kernel_rfl) (by kernel_rfl) (by kernel_rfl) ?hQl2 ?hyl2 HS ?restl2
      case hil2 => simp only [List.getElem?_toArray, List.getElem?_cons_succ, List.getElem?_cons_zero]; exact rfl
      case hQl2 => exact fun _ _ _ h => h
      case hyl2 =>
        refine Or.inl ⟨by rfl, ?_⟩
        intro wS hSw
        go_simp
        try with_reducible rfl
      try simp only [Act.put, List.setIfInBounds_toArray, List.set_cons_zero, List.set_cons_succ]
      refine wpAnyH_take (i := 3) (oi := ?oil3) (v := ?vl3) ?hil3 (by kernel_rfl) (by kernel_rfl) (by kernel_rfl) ?hQl3 ?hyl3 HS ?restl3
      case hil3 => simp only [List.getElem?_toArray, List.getElem?_cons_succ, List.getElem?_cons_zero]; exact rfl
      case hQl3 => exact fun _ _ _ h => h
      case hyl3 =>
        refine Or.inl ⟨by rfl, ?_⟩
        intro wS hSw
        go_simp
        try with_reducible rfl
      try simp only [Act.put, List.setIfInBounds_toArray, List.set_cons_zero, List.set_cons_succ]
      refine wpAnyH_take (i := 4) (oi := ?oil4) (v := ?vl4) ?hil4 (by kernel_rfl) (by kernel_rfl) (by kernel_rfl) ?hQl4 ?hyl4 HS ?restl4
      case hil4 => simp only [List.getElem?_toArray, List.getElem?_cons_succ, List.getElem?_cons_zero]; exact rfl
      case hQl4 => exact fun _ _ _ h => h
      case hyl4 =>
        refine Or.inl ⟨by rfl, ?_⟩
        intro wS hSw
        obtain ⟨p0, p1, p2, p3, -⟩ := Blk.v4 hSw.1.1
        obtain ⟨q0, q1, q2, q3, -⟩ := Blk.v4 hSw.1.2.1
        obtain ⟨r0, r1, r2, r3, -⟩ := Blk.v4 hSw.2.1
        obtain ⟨s0, s1, s2, s3, -⟩ := Blk.v4 hSw.2.2
        go_simp
        try with_reducible rfl
      try simp only [Act.put, List.setIfInBounds_toArray, List.set_cons_zero, List.set_cons_succ]
      refine wpAnyH_take (i := 5) (oi := ?oil5) (v := ?vl5) ?hil5 (by kernel_rfl) (by kernel_rfl) (by kernel_rfl) ?hQl5 ?hyl5 HS ?restl5
      case hil5 => simp only [List.getElem?_toArray, List.getElem?_cons_succ, List.getElem?_cons_zero]; exact rfl
      case hQl5 => exact fun _ _ _ h => h
      case hyl5 =>
        refine Or.inl ⟨by rfl, ?_⟩
        intro wS hSw
        go_simp
        try with_reducible rfl
      try simp only [Act.put, List.setIfInBounds_toArray, List.set_cons_zero, List.set_cons_succ]
      refine wpAnyH_take (i := 6) (oi := ?oil6) (v := ?vl6) ?hil6 (by kernel_rfl) (by kernel_rfl) (by kernel_rfl) ?hQl6 ?hyl6 HS ?restl6
      case hil6 => simp only [List.getElem?_toArray, List.getElem?_cons_succ, List.getElem?_cons_zero]; exact rfl
      case hQl6 => exact fun _ _ _ h => h
      case hyl6 =>
        refine Or.inl ⟨by rfl, ?_⟩
        intro wS hSw
        obtain ⟨p0, p1, p2, p3, -⟩ := Blk.v4 hSw.1.1
        obtain ⟨q0, q1, q2, q3, -⟩ := Blk.v4 hSw.1.2.1
        obtain ⟨r0, r1, r2, r3, -⟩ := Blk.v4 hSw.2.1
        obtain ⟨s0, s1, s2, s3, -⟩ := Blk.v4 hSw.2.2
        go_simp
        try with_reducible rfl
      try simp only [Act.put, List.setIfInBounds_toArray, List.set_cons_zero, List.set_cons_succ]
      refine wpAnyH_take (i := 7) (oi := ?oil7) (v := ?vl7) ?hil7 (by kernel_rfl) (by kernel_rfl) (by kernel_rfl) ?hQl7 ?hyl7 HS ?restl7
      case hil7 => simp only [List.getElem?_toArray, List.getElem?_cons_succ, List.getElem?_cons_zero]; exact rfl
      case hQl7 => exact fun _ _ _ h => h
      case hyl7 =>
        refine Or.inl ⟨by rfl, ?_⟩
        intro wS hSw
        go_simp
        try with_reducible rfl
      try simp only [Act.put, List.setIfInBounds_toArray, List.set_cons_zero, List.set_cons_succ]
      refine wpAnyH_take (i := 8) (oi := ?oil8) (v := ?vl8) ?hil8 (by kernel_rfl) (by kernel_rfl) (by kernel_rfl) ?hQl8 ?hyl8 HS ?restl8
      case hil8 => simp only [List.getElem?_toArray, List.getElem?_cons_succ, List.getElem?_cons_zero]; exact rfl
      case hQl8 => exact fun _ _ _ h => h
      case hyl8 =>
        refine Or.inl ⟨by rfl, ?_⟩
        intro wS hSw
        go_simp
        try with_reducible rfl
      try simp only [Act.put, List.setIfInBounds_toArray, List.set_cons_zero, List.set_cons_succ]
      refine wpAnyH_take (i := 9) (oi := ?oil9) (v := ?vl9) ?hil9 (by kernel_rfl) (by kernel_rfl) (by kernel_rfl) ?hQl9 ?hyl9 HS ?restl9
      case hil9 => simp only [List.getElem?_toArray, List.getElem?_cons_succ, List.getElem?_cons_zero]; exact rfl
      case hQl9 => exact fun _ _ _ h => h
      case hyl9 =>
        refine Or.inl ⟨by rfl, ?_⟩
        intro wS hSw
        go_simp
        try with_reducible rfl
      try simp only [Act.put, List.setIfInBounds_toArray, List.set_cons_zero, List.set_cons_succ]
      refine wpAnyH_take (i := 10) (oi := ?oil10) (v := ?vl10) ?hil10 (by kernel_rfl) (by kernel_rfl) (by kernel_rfl) ?hQl10 ?hyl10 HS ?restl10
      case hil10 => simp only [List.getElem?_toArray, List.getElem?_cons_succ, List.getElem?_cons_zero]; exact rfl
      case hQl10 => exact fun _ _ _ h => h
      case hyl10 =>
        refine Or.inl ⟨by rfl, ?_⟩
        intro wS hSw
        obtain ⟨p0, p1, p2, p3, -⟩ := Blk.v4 hSw.1.1
        obtain ⟨q0, q1, q2, q3, -⟩ := Blk.v4 hSw.1.2.1
        obtain ⟨r0, r1, r2, r3, -⟩ := Blk.v4 hSw.2.1
        obtain ⟨s0, s1, s2, s3, -⟩ := Blk.v4 hSw.2.2
        go_simp
        try with_reducible rfl
      try simp only [Act.put, List.setIfInBounds_toArray, List.set_cons_zero, List.set_cons_succ]
      refine wpAnyH_take (i := 11) (oi := ?oil11) (v := ?vl11) ?hil11 (by kernel_rfl) (by kernel_rfl) (by kernel_rfl) ?hQl11 ?hyl11 HS ?restl11
      case hil11 => simp only [List.getElem?_toArray, List.getElem?_cons_succ, List.getElem?_cons_zero]; exact rfl
      case hQl11 => exact fun _ _ _ h => h
      case hyl11 =>
        refine Or.inl ⟨by rfl, ?_⟩
        intro wS hSw
        go_simp
        try with_reducible rfl
      try simp only [Act.put, List.setIfInBounds_toArray, List.set_cons_zero, List.set_cons_succ]
      refine wpAnyH_take (i := 13) (oi := ?oil13) (v := ?vl13) ?hil13 (by kernel_rfl) (by kernel_rfl) (by kernel_rfl) ?hQl13 ?hyl13 HS ?restl13
      case hil13 => simp only [List.getElem?_toArray, List.getElem?_cons_succ, List.getElem?_cons_zero]; exact rfl
      case hQl13 => exact fun _ _ _ h => h
      case hyl13 =>
        refine Or.inl ⟨by rfl, ?_⟩
        intro wS hSw
        obtain ⟨p0, p1, p2, p3, -⟩ := Blk.v4 hSw.1.1
        obtain ⟨q0, q1, q2, q3, -⟩ := Blk.v4 hSw.1.2.1
        obtain ⟨r0, r1, r2, r3, -⟩ := Blk.v4 hSw.2.1
        obtain ⟨s0, s1, s2, s3, -⟩ := Blk.v4 hSw.2.2
        go_simp
        try with_reducible rfl
      try simp only [Act.put, List.setIfInBounds_toArray, List.set_cons_zero, List.set_cons_succ]
      refine wpAnyH_ready (rs := [12]) (by kernel_rfl) (by simp) ?_
      refine AllReadyH.cons (o := ?ol12) ?hol12 (fun K hK => ?stepl12) AllReadyH.nil
      case hol12 => simp only [List.getElem?_toArray, List.getElem?_cons_succ, List.getElem?_cons_zero]; exact rfl
      go_simp
      refine (C7.out _).mono ?_
      rintro e wlZ ⟨rfl, hblZ⟩
      refine hK.out _ _ (HZ2.step HS hblZ) (fun HS => ?_)
      clear hK K
      try simp only [Act.put, List.setIfInBounds_toArray, List.set_cons_zero, List.set_cons_succ]
      refine wpAnyH_take (i := 14) (oi := ?oil14) (v := ?vl14) ?hil14 (by kernel_rfl) (by kernel_rfl) (by kernel_rfl) ?hQl14 ?hyl14 HS ?restl14
      case hil14 => simp only [List.getElem?_toArray, List.getElem?_cons_succ, List.getElem?_cons_zero]; exact rfl
      case hQl14 => exact fun _ _ _ h => h
      case hyl14 =>
        refine Or.inl ⟨by rfl, ?_⟩
        intro wS hSw
        go_simp
        try with_reducible rfl
      try simp only [Act.put, List.setIfInBounds_toArray, List.set_cons_zero, List.set_cons_succ]
      refine wpAnyH_take (i := 15) (oi := ?oil15) (v := ?vl15) ?hil15 (by kernel_rfl) (by kernel_rfl) (by kernel_rfl) ?hQl15 ?hyl15 HS ?restl15
      case hil15 => simp only [List.getElem?_toArray, List.getElem?_cons_succ, List.getElem?_cons_zero]; exact rfl
      case hQl15 => exact fun _ _ _ h => h
      case hyl15 =>
        refine Or.inl ⟨by rfl, ?_⟩
        intro wS hSw
        go_simp
        try with_reducible rfl
      try simp only [Act.put, List.setIfInBounds_toArray, List.set_cons_zero, List.set_cons_succ]
      refine wpAnyH_take (i := 16) (oi := ?oil16) (v := ?vl16) ?hil16 (by kernel_rfl) (by kernel_rfl) (by kernel_rfl) ?hQl16 ?hyl16 HS ?restl16
      case hil16 => simp only [List.getElem?_toArray, List.getElem?_cons_succ, List.getElem?_cons_zero]; exact rfl
      case hQl16 => exact fun _ _ _ h => h
      case hyl16 =>
        refine Or.inl ⟨by rfl, ?_⟩
        intro wS hSw
        go_simp
        try with_reducible rfl
      try simp only [Act.put, List.setIfInBounds_toArray, List.set_cons_zero, List.set_cons_succ]
      refine wpAnyH_done (by kernel_rfl) ?_ _
      have HB := hid HS.1.2.2.2
      clear HS H8
      go_wp2
      go_ret
      exact ⟨rfl, HB.out⟩
    · have hxy : xz ≠ yz := by
        rw [HXZ.out.1, HXZ.out.2]
        exact zk_ne hk
      have d1 : (vk a == vk b) = false := by simpa using hk
      have heq := eq_no hxy
      clear HXZ hk hxy
      go_wp2_with fail
      refine wp_region_held_drew (S := HZ2 w a b x y g h xz yz) (by kernel_rfl) H8 (fun HS => ?_)
      refine wpAnyH_take (i := 0) (oi := ?oim0) (v := ?vm0) ?him0 (by kernel_rfl) (by kernel_rfl) (by kernel_rfl) ?hQm0 ?hym0 HS ?restm0
      case him0 => simp only [List.getElem?_toArray, List.getElem?_cons_zero]; exact rfl
      case hQm0 => exact fun _ _ _ h => h
      case hym0 =>
        refine Or.inl ⟨by rfl, ?_⟩
        intro wS hSw
        obtain ⟨p0, p1, p2, p3, -⟩ := Blk.v4 hSw.1.1
        obtain ⟨q0, q1, q2, q3, -⟩ := Blk.v4 hSw.1.2.1
        obtain ⟨r0, r1, r2, r3, -⟩ := Blk.v4 hSw.2.1
        obtain ⟨s0, s1, s2, s3, -⟩ := Blk.v4 hSw.2.2
        go_simp
        try with_reducible rfl
      try simp only [Act.put, List.setIfInBounds_toArray, List.set_cons_zero, List.set_cons_succ]
      refine wpAnyH_take (i := 1) (oi := ?oim1) (v := ?vm1) ?him1 (by kernel_rfl) (by kernel_rfl) (by kernel_rfl) ?hQm1 ?hym1 HS ?restm1
      case him1 => simp only [List.getElem?_toArray, List.getElem?_cons_succ, List.getElem?_cons_zero]; exact rfl
      case hQm1 => exact fun _ _ _ h => h
      case hym1 =>
        refine Or.inl ⟨by rfl, ?_⟩
        intro wS hSw
        obtain ⟨p0, p1, p2, p3, -⟩ := Blk.v4 hSw.1.1
        obtain ⟨q0, q1, q2, q3, -⟩ := Blk.v4 hSw.1.2.1
        obtain ⟨r0, r1, r2, r3, -⟩ := Blk.v4 hSw.2.1
        obtain ⟨s0, s1, s2, s3, -⟩ := Blk.v4 hSw.2.2
        go_simp
        try with_reducible rfl
      try simp only [Act.put, List.setIfInBounds_toArray, List.set_cons_zero, List.set_cons_succ]
      refine wpAnyH_take (i := 2) (oi := ?oim2) (v := ?vm2) ?him2 (by kernel_rfl) (by kernel_rfl) (by kernel_rfl) ?hQm2 ?hym2 HS ?restm2
      case him2 => simp only [List.getElem?_toArray, List.getElem?_cons_succ, List.getElem?_cons_zero]; exact rfl
      case hQm2 => exact fun _ _ _ h => h
      case hym2 =>
        refine Or.inl ⟨by rfl, ?_⟩
        intro wS hSw
        go_simp
        try with_reducible rfl
      try simp only [Act.put, List.setIfInBounds_toArray, List.set_cons_zero, List.set_cons_succ]
      refine wpAnyH_take (i := 3) (oi := ?oim3) (v := ?vm3) ?him3 (by kernel_rfl) (by kernel_rfl) (by kernel_rfl) ?hQm3 ?hym3 HS ?restm3
      case him3 => simp only [List.getElem?_toArray, List.getElem?_cons_succ, List.getElem?_cons_zero]; exact rfl
      case hQm3 => exact fun _ _ _ h => h
      case hym3 =>
        refine Or.inl ⟨by rfl, ?_⟩
        intro wS hSw
        go_simp
        try with_reducible rfl
      try simp only [Act.put, List.setIfInBounds_toArray, List.set_cons_zero, List.set_cons_succ]
      refine wpAnyH_take (i := 4) (oi := ?oim4) (v := ?vm4) ?him4 (by kernel_rfl) (by kernel_rfl) (by kernel_rfl) ?hQm4 ?hym4 HS ?restm4
      case him4 => simp only [List.getElem?_toArray, List.getElem?_cons_succ, List.getElem?_cons_zero]; exact rfl
      case hQm4 => exact fun _ _ _ h => h
      case hym4 =>
        refine Or.inl ⟨by rfl, ?_⟩
        intro wS hSw
        obtain ⟨p0, p1, p2, p3, -⟩ := Blk.v4 hSw.1.1
        obtain ⟨q0, q1, q2, q3, -⟩ := Blk.v4 hSw.1.2.1
        obtain ⟨r0, r1, r2, r3, -⟩ := Blk.v4 hSw.2.1
        obtain ⟨s0, s1, s2, s3, -⟩ := Blk.v4 hSw.2.2
        go_simp
        try with_reducible rfl
      try simp only [Act.put, List.setIfInBounds_toArray, List.set_cons_zero, List.set_cons_succ]
      refine wpAnyH_take (i := 5) (oi := ?oim5) (v := ?vm5) ?him5 (by kernel_rfl) (by kernel_rfl) (by kernel_rfl) ?hQm5 ?hym5 HS ?restm5
      case him5 => simp only [List.getElem?_toArray, List.getElem?_cons_succ, List.getElem?_cons_zero]; exact rfl
      case hQm5 => exact fun _ _ _ h => h
      case hym5 =>
        refine Or.inl ⟨by rfl, ?_⟩
        intro wS hSw
        go_simp
        try with_reducible rfl
      try simp only [Act.put, List.setIfInBounds_toArray, List.set_cons_zero, List.set_cons_succ]
      refine wpAnyH_take (i := 6) (oi := ?oim6) (v := ?vm6) ?him6 (by kernel_rfl) (by kernel_rfl) (by kernel_rfl) ?hQm6 ?hym6 HS ?restm6
      case him6 => simp only [List.getElem?_toArray, List.getElem?_cons_succ, List.getElem?_cons_zero]; exact rfl
      case hQm6 => exact fun _ _ _ h => h
      case hym6 =>
        refine Or.inl ⟨by rfl, ?_⟩
        intro wS hSw
        obtain ⟨p0, p1, p2, p3, -⟩ := Blk.v4 hSw.1.1
        obtain ⟨q0, q1, q2, q3, -⟩ := Blk.v4 hSw.1.2.1
        obtain ⟨r0, r1, r2, r3, -⟩ := Blk.v4 hSw.2.1
        obtain ⟨s0, s1, s2, s3, -⟩ := Blk.v4 hSw.2.2
        go_simp
        try with_reducible rfl
      try simp only [Act.put, List.setIfInBounds_toArray, List.set_cons_zero, List.set_cons_succ]
      refine wpAnyH_take (i := 7) (oi := ?oim7) (v := ?vm7) ?him7 (by kernel_rfl) (by kernel_rfl) (by kernel_rfl) ?hQm7 ?hym7 HS ?restm7
      case him7 => simp only [List.getElem?_toArray, List.getElem?_cons_succ, List.getElem?_cons_zero]; exact rfl
      case hQm7 => exact fun _ _ _ h => h
      case hym7 =>
        refine Or.inl ⟨by rfl, ?_⟩
        intro wS hSw
        go_simp
        try with_reducible rfl
      try simp only [Act.put, List.setIfInBounds_toArray, List.set_cons_zero, List.set_cons_succ]
      refine wpAnyH_take (i := 8) (oi := ?oim8) (v := ?vm8) ?him8 (by kernel_rfl) (by kernel_rfl) (by kernel_rfl) ?hQm8 ?hym8 HS ?restm8
      case him8 => simp only [List.getElem?_toArray, List.getElem?_cons_succ, List.getElem?_cons_zero]; exact rfl
      case hQm8 => exact fun _ _ _ h => h
      case hym8 =>
        refine Or.inl ⟨by rfl, ?_⟩
        intro wS hSw
        go_simp
        try with_reducible rfl
      try simp only [Act.put, List.setIfInBounds_toArray, List.set_cons_zero, List.set_cons_succ]
      refine wpAnyH_take (i := 9) (oi := ?oim9) (v := ?vm9) ?him9 (by kernel_rfl) (by kernel_rfl) (by kernel_rfl) ?hQm9 ?hym9 HS ?restm9
      case him9 => simp only [List.getElem?_toArray, List.getElem?_cons_succ, List.getElem?_cons_zero]; exact rfl
      case hQm9 => exact fun _ _ _ h => h
      case hym9 =>
        refine Or.inl ⟨by rfl, ?_⟩
        intro wS hSw
        go_simp
        try with_reducible rfl
      try simp only [Act.put, List.setIfInBounds_toArray, List.set_cons_zero, List.set_cons_succ]
      refine wpAnyH_take (i := 10) (oi := ?oim10) (v := ?vm10) ?him10 (by kernel_rfl) (by kernel_rfl) (by kernel_rfl) ?hQm10 ?hym10 HS ?restm10
      case him10 => simp only [List.getElem?_toArray, List.getElem?_cons_succ, List.getElem?_cons_zero]; exact rfl
      case hQm10 => exact fun _ _ _ h => h
      case hym10 =>
        refine Or.inl ⟨by rfl, ?_⟩
        intro wS hSw
        obtain ⟨p0, p1, p2, p3, -⟩ := Blk.v4 hSw.1.1
        obtain ⟨q0, q1, q2, q3, -⟩ := Blk.v4 hSw.1.2.1
        obtain ⟨r0, r1, r2, r3, -⟩ := Blk.v4 hSw.2.1
        obtain ⟨s0, s1, s2, s3, -⟩ := Blk.v4 hSw.2.2
        go_simp
        try with_reducible rfl
      try simp only [Act.put, List.setIfInBounds_toArray, List.set_cons_zero, List.set_cons_succ]
      refine wpAnyH_take (i := 11) (oi := ?oim11) (v := ?vm11) ?him11 (by kernel_rfl) (by kernel_rfl) (by kernel_rfl) ?hQm11 ?hym11 HS ?restm11
      case him11 => simp only [List.getElem?_toArray, List.getElem?_cons_succ, List.getElem?_cons_zero]; exact rfl
      case hQm11 => exact fun _ _ _ h => h
      case hym11 =>
        refine Or.inl ⟨by rfl, ?_⟩
        intro wS hSw
        go_simp
        try with_reducible rfl
      try simp only [Act.put, List.setIfInBounds_toArray, List.set_cons_zero, List.set_cons_succ]
      refine wpAnyH_take (i := 13) (oi := ?oim13) (v := ?vm13) ?him13 (by kernel_rfl) (by kernel_rfl) (by kernel_rfl) ?hQm13 ?hym13 HS ?restm13
      case him13 => simp only [List.getElem?_toArray, List.getElem?_cons_succ, List.getElem?_cons_zero]; exact rfl
      case hQm13 => exact fun _ _ _ h => h
      case hym13 =>
        refine Or.inl ⟨by rfl, ?_⟩
        intro wS hSw
        obtain ⟨p0, p1, p2, p3, -⟩ := Blk.v4 hSw.1.1
        obtain ⟨q0, q1, q2, q3, -⟩ := Blk.v4 hSw.1.2.1
        obtain ⟨r0, r1, r2, r3, -⟩ := Blk.v4 hSw.2.1
        obtain ⟨s0, s1, s2, s3, -⟩ := Blk.v4 hSw.2.2
        go_simp
        try with_reducible rfl
      try simp only [Act.put, List.setIfInBounds_toArray, List.set_cons_zero, List.set_cons_succ]
      refine wpAnyH_ready (rs := [12]) (by kernel_rfl) (by simp) ?_
      refine AllReadyH.cons (o := ?om12) ?hom12 (fun K hK => ?stepm12) AllReadyH.nil
      case hom12 => simp only [List.getElem?_toArray, List.getElem?_cons_succ, List.getElem?_cons_zero]; exact rfl
      go_simp
      refine (C7.out _).mono ?_
      rintro e wmZ ⟨rfl, hbmZ⟩
      refine hK.out _ _ (HZ2.step HS hbmZ) (fun HS => ?_)
      clear hK K
      try simp only [Act.put, List.setIfInBounds_toArray, List.set_cons_zero, List.set_cons_succ]
      refine wpAnyH_take (i := 14) (oi := ?oim14) (v := ?vm14) ?him14 (by kernel_rfl) (by kernel_rfl) (by kernel_rfl) ?hQm14 ?hym14 HS ?restm14
      case him14 => simp only [List.getElem?_toArray, List.getElem?_cons_succ, List.getElem?_cons_zero]; exact rfl
      case hQm14 => exact fun _ _ _ h => h
      case hym14 =>
        refine Or.inl ⟨by rfl, ?_⟩
        intro wS hSw
        go_simp
        try with_reducible rfl
      try simp only [Act.put, List.setIfInBounds_toArray, List.set_cons_zero, List.set_cons_succ]
      refine wpAnyH_take (i := 15) (oi := ?oim15) (v := ?vm15) ?him15 (by kernel_rfl) (by kernel_rfl) (by kernel_rfl) ?hQm15 ?hym15 HS ?restm15
      case him15 => simp only [List.getElem?_toArray, List.getElem?_cons_succ, List.getElem?_cons_zero]; exact rfl
      case hQm15 => exact fun _ _ _ h => h
      case hym15 =>
        refine Or.inl ⟨by rfl, ?_⟩
        intro wS hSw
        go_simp
        try with_reducible rfl
      try simp only [Act.put, List.setIfInBounds_toArray, List.set_cons_zero, List.set_cons_succ]
      refine wpAnyH_take (i := 16) (oi := ?oim16) (v := ?vm16) ?him16 (by kernel_rfl) (by kernel_rfl) (by kernel_rfl) ?hQm16 ?hym16 HS ?restm16
      case him16 => simp only [List.getElem?_toArray, List.getElem?_cons_succ, List.getElem?_cons_zero]; exact rfl
      case hQm16 => exact fun _ _ _ h => h
      case hym16 =>
        refine Or.inl ⟨by rfl, ?_⟩
        intro wS hSw
        go_simp
        try with_reducible rfl
      try simp only [Act.put, List.setIfInBounds_toArray, List.set_cons_zero, List.set_cons_succ]
      refine wpAnyH_done (by kernel_rfl) ?_ _
      have HB := hid HS.1.2.2.2
      clear HS H8
      go_wp2
      go_ret
      exact ⟨rfl, HB.out⟩
theorem walkValueHeads (k1 n1 : Int) (s1 : ByteArray) (f1 : Int) (k2 n2 : Int) (s2 : ByteArray) (f2 : Int) (x y : Int) (w : World) (_ : (Lit.int .i64 k1).wf = true) (h1 : (Lit.int .i64 n1).wf = true) (_ : s1.size ≤ maxLen) (g1 : (Lit.int .u64 f1).wf = true) (_ : (Lit.int .i64 k2).wf = true) (h2 : (Lit.int .i64 n2).wf = true) (_ : s2.size ≤ maxLen) (g2 : (Lit.int .u64 f2).wf = true) (hx : (Lit.int .u8 x).wf = true) (hy : (Lit.int .u8 y).wf = true) (hw : Lw w) :
    Calls Tryz.prog 9 #[.agg #[.int .i64 k1, .int .i64 n1, .string s1, .int .u64 f1], .agg #[.int .i64 k2, .int .i64 n2, .string s2, .int .u64 f2], .agg #[.int .u8 x, .int .u8 y]] w fun e w' => e = .returned (.bool true) ∧ Below w.heap.size w w' := by
  obtain ⟨a, ea, fa, -, -⟩ := vl_of (k := k1) (s := s1) h1 g1
  obtain ⟨b, eb, fb, -, -⟩ := vl_of (k := k2) (s := s2) h2 g2
  obtain ⟨x1, x2⟩ := wf_u8 hx
  obtain ⟨y1, y2⟩ := wf_u8 hy
  rw [ea, eb]
  exact coreValueHeads a b x y w fa fb x1 x2 y1 y2 hw
end Go.Proofs.YtomgpkklbhdgiaaGreatDoor
