/- What strongroomlaw04.first returns: true. -/
import Derived.Test.YtdgcoipflenlgaaDvFull
namespace Go.Proofs.Ytdgcoipflenlgaa
open Go.RowKit

theorem wp_makeb {op : Oper} {a : Act} {w : World} {K : Act → World → Prop} {Q : Exit → Act → World → Prop} (l c : Operand) (ho : op.op = .makeSlice 31 l c)
    (N : Nat) (hl : a.eval l = .int .i64 (N : Int)) (hc : a.eval c = .int .i64 (N : Int)) (hN : N ≤ 1000000)
    (h : K (a.put op.dst (.slice (some ⟨w.heap.size, 0, none⟩) N N)) (w.alloc (.cells (bs (List.replicate N 0)).toArray 5))) : op.wp Try.prog a w K Q := by
  obtain ⟨i, hi, hz0, hz1, hz2⟩ := info_parts Try.infoU8
  have hb : (i.bytes : Int) * (N : Int) ≤ 281474976710656 := by rw [hz2]; omega
  have hrun := run_make (P := Try.prog) w 31 5 i (.int .u8 0) Try.underlying31 hi hz0 .i64 .i64 N N (by omega) (by omega) hb (by omega)
  rw [Int.toNat_natCast, hz1, Nat.mul_one] at hrun
  have hcells : madeCells (Value.cells (.int .u8 0)) N = (bs (List.replicate N 0)).toArray := by
    show madeCells #[.int .u8 0] N = _
    apply Array.toList_inj.1
    rw [toList_madeCells_one]
    simp [bs]
  rw [hcells] at hrun
  unfold Oper.wp execOp
  simp only [ho, hl, hc, Sem.run_bind, hrun, Result.andThen_ok]
  exact h

theorem Dev.no {w : World} {F : Nat → Prop} {g : Nat} {s : St} (h : Dev w F g s) {b : Nat} (hb : w.heap.size ≤ b) : ¬ F b := fun e => by have := h.lt b e; omega
theorem Left.dev {w w' : World} {F : Nat → Prop} {g : Nat} {s : St} {hi : Nat} (h : Left w w' F g s) (hF : ∀ j, F j → hi ≤ j) (hw : hi ≤ w.heap.size) : ∃ F', Dev w' F' g s ∧ (∀ j, F' j → hi ≤ j) ∧ Below hi w w' := by
  obtain ⟨F', hd, hk, hF'⟩ := h
  exact ⟨F', hd, fun j hj => by rcases hF' j hj with e | e; exact hF j e; omega, hk.below hF hw⟩
theorem run_conv {w : World} {lo hi n c : Nat} {A : Option Addr} {l : List UInt8} (h : Bts w lo hi A n l) : (convert 31 9 (.slice A n c)).run Try.prog w = .ok (.string (str l)) w :=
  run_str 31 9 5 Try.underlying31 Try.underlying5 Try.underlying9 h

set_option maxRecDepth 20000 in
set_option maxHeartbeats 4000000 in
theorem first_c (w : World) : Calls Try.prog 8 #[] w fun e w' => e = .returned (.bool true) ∧ Below w.heap.size w w' := by
  go_enter Try.func8, Try.ntmps8
  go_wp2_with fail
  refine (new_c 4 w (by decide) (by decide)).mono ?_
  rintro e w1 ⟨g, F1, rfl, hd1, hb1, hF1⟩
  have HD1 := hid hd1
  have HB1 := hid hb1
  have HF1 := hid hF1
  clear hd1 hb1 hF1
  go_wp2_with fail
  refine (new_bad 0 w1 (by decide)).mono ?_
  rintro e w2 ⟨rfl, rfl⟩
  have kc := fun (w : World) (C : Array Value) (n c : Nat) => Lib.run_convert_bytes_const (P := Try.prog) w 31 5 C n c Try.underlying31 Try.underlying5
  go_wp2_with fail
  refine (write_c _ F1 g (St.new 4) (HD1.out.bel ((Below.refl _ _).alloc (Nat.le_refl _) _)) 0 (by decide) _ 1 1 [97] ((Bts.litM w1 5 [97] _).wide (by omega) (by simp)) (fun _ u hu => by injection hu with hu; subst hu; exact HD1.out.no (Nat.le_refl _)) (by decide) (by decide) (by decide)).mono ?_
  rintro e w3 ⟨rfl, hL⟩
  obtain ⟨F3, hd3, hF3, hb3⟩ := hL.dev (hi := w.heap.size) HF1.out (Nat.le_trans HB1.out.size (by simp))
  have HB3 : Hid (Below w.heap.size w w3) := hid ((HB1.out.alloc HB1.out.size _).trans hb3)
  have HD3 := hid hd3
  have HF3 := hid hF3
  clear hL hd3 hF3 hb3 HD1 HB1 HF1
  go_wp2_with fail
  refine (write_c _ F3 g ((St.new 4).put 0 [97]).dec (HD3.out.bel ((Below.refl _ _).alloc (Nat.le_refl _) _)) 0 (by decide) _ 1 1 [98] ((Bts.litM w3 5 [98] _).wide (by omega) (by simp)) (fun _ u hu => by injection hu with hu; subst hu; exact HD3.out.no (Nat.le_refl _)) (by decide) (by decide) (by decide)).mono ?_
  rintro e w4 ⟨rfl, hL⟩
  obtain ⟨F4, hd4, hF4, hb4⟩ := hL.dev (hi := w.heap.size) HF3.out (Nat.le_trans HB3.out.size (by simp))
  have HB4 : Hid (Below w.heap.size w w4) := hid ((HB3.out.alloc HB3.out.size _).trans hb4)
  have HD4 := hid hd4
  have HF4 := hid hF4
  clear hL hd4 hF4 hb4 HD3 HB3 HF3 kc
  generalize hs4 : (((St.new 4).put 0 [97]).dec.put 0 [98]).dec = s4 at HD4
  have W4 : s4.W.length = 2 := by rw [← hs4]; rfl
  have C4 : Hid ((s4.crash [true]).n = 4 ∧ (s4.crash [true]).lim = none ∧ app (s4.crash [true]).W (s4.crash [true]).K 0 = pad [97]) := hid (by rw [← hs4]; decide)
  clear hs4
  go_wp2_with fail
  refine (waiting_c w4 F4 g s4 HD4.out).mono ?_
  rintro e w5 ⟨rfl, rfl⟩
  rw [W4]
  have HW4 := hid W4
  clear W4
  go_wp2_with fail
  refine (crash_c _ F4 g s4 (HD4.out.bel ((Below.refl _ _).alloc (Nat.le_refl _) _)) _ 1 1 [true] ⟨rfl, fun _ => ⟨w4.heap.size, 0, rfl, Nat.zero_le _, by simp, fun j u hu => ?_⟩⟩ (fun _ u hu => by injection hu with hu; subst hu; exact HD4.out.no (Nat.le_refl _)) (by rw [HW4.out]; decide)).mono ?_
  · rw [Blk.cell (Blk.new w4 4 #[.bool true])]
    simpa using hu
  rintro e w6 ⟨rfl, hL⟩
  obtain ⟨F6, hd6, hF6, hb6⟩ := hL.dev (hi := w.heap.size) HF4.out (Nat.le_trans HB4.out.size (by simp))
  have HB6 : Hid (Below w.heap.size w w6) := hid ((HB4.out.alloc HB4.out.size _).trans hb6)
  generalize s4.crash [true] = s6 at *
  obtain ⟨n6, l6, k6⟩ := C4.out
  have HD6 := hid hd6
  have HF6 := hid hF6
  have HN6 := hid n6
  have HL6 := hid l6
  have HK6 := hid k6
  clear hL hd6 hF6 hb6 HD4 HB4 HF4 C4 n6 l6 k6 HW4
  go_wp2_with fail
  refine (read_c w6 F6 g s6 HD6.out 0 (by rw [HN6.out]; decide) (by rw [HL6.out]; simp)).mono ?_
  rintro e w7 ⟨A7, c7, rfl, ho7, hb7⟩
  rw [HK6.out] at ho7
  have HO7 := hid (Bts.own (l := pad [97]) ho7)
  have HD7 := hid (HD6.out.bel hb7)
  have HB7 : Hid (Below w.heap.size w w7) := hid (HB6.out.trans (hb7.mono HB6.out.size))
  have HZ7 := hid (show w6.heap.size ≤ w7.heap.size from hb7.size)
  have HF7 : Hid (∀ u, (fun j => w6.heap.size ≤ j ∧ j < w7.heap.size) u → ¬ F6 u) := hid (fun u hu => HD6.out.no hu.1)
  clear ho7 hb7 HB6
  go_wp2_with fail
  refine (limit_c w7 F6 g s6 HD7.out 0 (by decide)).mono ?_
  rintro e w8 ⟨rfl, hL⟩
  have HO8 : Hid (Bts w8 w6.heap.size w8.heap.size A7 16 (pad [97])) := hid (by
    obtain ⟨F', hd', hk', hF'⟩ := hL
    exact (HO7.out.keep fun k h1 h2 => hk'.block k h2 (HD6.out.no h1)).wide (Nat.le_refl _) hk'.size)
  obtain ⟨F8, hd8, hF8, hb8⟩ := hL.dev (hi := w.heap.size) HF6.out HB7.out.size
  have HB8 : Hid (Below w.heap.size w w8) := hid (HB7.out.trans hb8)
  have HD8 := hid hd8
  have HL8 : Hid ((s6.bound 0).lim = some 0) := hid rfl
  have HN8 : Hid ((s6.bound 0).n = 4) := HN6
  generalize s6.bound 0 = s8 at *
  have HAP : Hid ((⟨#[97]⟩ : ByteArray) ++ str (List.replicate 15 0) = str (pad [97])) := hid (dstr_app [97] _)
  have HSZ : Hid ((str (List.replicate 15 0)).size = 15) := hid (by rw [str_size]; rfl)
  clear hL hd8 hF8 hb8 HD7 HB7 HF7 HO7 HD6 HF6 HN6 HL6 HK6 HZ7
  have CV := hid (fun wx (hx : Below w8.heap.size w8 wx) => run_conv (c := c7) (HO8.out.below hx (Nat.le_refl _)))
  have SY := hid (fun wx (hx : Below w8.heap.size w8 wx) => sync_off wx F8 g s8 (HD8.out.bel hx) HL8.out)
  have OV := hid (fun wx (hx : Below w8.heap.size w8 wx) => over_bad wx F8 g s8 (HD8.out.bel hx) 4 none 0 0 (by unfold bad; rw [HN8.out]; decide))
  have BL := hid (fun wx (hx : Below w8.heap.size w8 wx) => blocks_c wx F8 g s8 (HD8.out.bel hx))
  generalize str (pad [97]) = T at *
  clear HO8 HD8 HL8
  go_wp2_with fail
  refine wp_region_held_drew (S := fun wx => Below w8.heap.size w8 wx) (by kernel_rfl) ((Below.refl _ _).drew) (fun HS => ?_)
  refine wpAnyH_take (i := 0) (oi := ?oi0) (v := ?v0) ?hi0 (by kernel_rfl) (by kernel_rfl) (by kernel_rfl) ?hQ0 ?hy0 HS ?rest0
  case hi0 => simp only [List.getElem?_toArray, List.getElem?_cons_zero]; exact rfl
  case hQ0 => exact fun _ _ _ h => h
  case hy0 =>
    refine Or.inl ⟨by rfl, ?_⟩
    intro wS hSw
    go_simp
    try with_reducible rfl
  try simp only [Act.put, List.setIfInBounds_toArray, List.set_cons_zero, List.set_cons_succ]
  refine wpAnyH_take (i := 1) (oi := ?oi1) (v := ?v1) ?hi1 (by kernel_rfl) (by kernel_rfl) (by kernel_rfl) ?hQ1 ?hy1 HS ?rest1
  case hi1 => simp only [List.getElem?_toArray, List.getElem?_cons_succ, List.getElem?_cons_zero]; exact rfl
  case hQ1 => exact fun _ _ _ h => h
  case hy1 =>
    refine Or.inl ⟨by rfl, ?_⟩
    intro wS hSw
    go_simp
    try with_reducible rfl
  try simp only [Act.put, List.setIfInBounds_toArray, List.set_cons_zero, List.set_cons_succ]
  refine wpAnyH_take (i := 2) (oi := ?oi2) (v := ?v2) ?hi2 (by kernel_rfl) (by kernel_rfl) (by kernel_rfl) ?hQ2 ?hy2 HS ?rest2
  case hi2 => simp only [List.getElem?_toArray, List.getElem?_cons_succ, List.getElem?_cons_zero]; exact rfl
  case hQ2 => exact fun _ _ _ h => h
  case hy2 =>
    refine Or.inl ⟨by rfl, ?_⟩
    intro wS hSw
    go_simp
    try with_reducible rfl
  try simp only [Act.put, List.setIfInBounds_toArray, List.set_cons_zero, List.set_cons_succ]
  refine wpAnyH_take (i := 3) (oi := ?oi3) (v := ?v3) ?hi3 (by kernel_rfl) (by kernel_rfl) (by kernel_rfl) ?hQ3 ?hy3 HS ?rest3
  case hi3 => simp only [List.getElem?_toArray, List.getElem?_cons_succ, List.getElem?_cons_zero]; exact rfl
  case hQ3 => exact fun _ _ _ h => h
  case hy3 =>
    refine Or.inl ⟨by rfl, ?_⟩
    intro wS hSw
    go_simp
    try with_reducible rfl
  try simp only [Act.put, List.setIfInBounds_toArray, List.set_cons_zero, List.set_cons_succ]
  refine wpAnyH_take (i := 4) (oi := ?oi4) (v := ?v4) ?hi4 (by kernel_rfl) (by kernel_rfl) (by kernel_rfl) ?hQ4 ?hy4 HS ?rest4
  case hi4 => simp only [List.getElem?_toArray, List.getElem?_cons_succ, List.getElem?_cons_zero]; exact rfl
  case hQ4 => exact fun _ _ _ h => h
  case hy4 =>
    refine Or.inl ⟨by rfl, ?_⟩
    intro wS hSw
    have hcv := CV.out wS hSw
    go_simp
    try with_reducible rfl
  try simp only [Act.put, List.setIfInBounds_toArray, List.set_cons_zero, List.set_cons_succ]
  refine wpAnyH_ready (rs := [5]) (by kernel_rfl) (by simp) ?_
  refine AllReadyH.cons (o := ?o5) ?ho5 (fun K hK => ?step5) AllReadyH.nil
  case ho5 => simp only [List.getElem?_toArray, List.getElem?_cons_succ, List.getElem?_cons_zero]; exact rfl
  rw [if_pos (by rfl)]
  refine wp_makeb _ _ rfl 15 rfl rfl (by decide) ?_
  have B9 : Hid (Below w8.heap.size w8 (w8.drew.alloc (.cells (bs (List.replicate 15 0)).toArray 5))) := hid (((Below.refl _ _).drew).alloc (Nat.le_refl _) _)
  have C9 : (convert 31 9 (.slice (some ⟨w8.drew.heap.size, 0, none⟩) 15 15)).run Try.prog (w8.drew.alloc (.cells (bs (List.replicate 15 0)).toArray 5)) = .ok (.string (str (List.replicate 15 0))) (w8.drew.alloc (.cells (bs (List.replicate 15 0)).toArray 5)) := run_conv (Bts.lit w8.drew 5 (List.replicate 15 0))
  generalize w8.drew.alloc (.cells (bs (List.replicate 15 0)).toArray 5) = w9 at *
  generalize w8.drew.heap.size = b9 at *
  have k1 : ¬ 9223372036854775807 < 1 + (str (List.replicate 15 0)).size := by rw [HSZ.out]; decide
  have hap := HAP.out
  generalize str (List.replicate 15 0) = Z at *
  refine hK.out _ _ B9.out (fun HS => ?_)
  clear hK K
  try simp only [Act.put, List.setIfInBounds_toArray, List.set_cons_zero, List.set_cons_succ]
  refine wpAnyH_ready (rs := [6]) (by kernel_rfl) (by simp) ?_
  refine AllReadyH.cons (o := ?o6) ?ho6 (fun K hK => ?step6) AllReadyH.nil
  case ho6 => simp only [List.getElem?_toArray, List.getElem?_cons_succ, List.getElem?_cons_zero]; exact rfl
  go_simp
  refine hK.out _ _ B9.out (fun HS => ?_)
  clear hK K
  try simp only [Act.put, List.setIfInBounds_toArray, List.set_cons_zero, List.set_cons_succ]
  refine wpAnyH_take (i := 7) (oi := ?oi7) (v := ?v7) ?hi7 (by kernel_rfl) (by kernel_rfl) (by kernel_rfl) ?hQ7 ?hy7 HS ?rest7
  case hi7 => simp only [List.getElem?_toArray, List.getElem?_cons_succ, List.getElem?_cons_zero]; exact rfl
  case hQ7 => exact fun _ _ _ h => h
  case hy7 =>
    refine Or.inl ⟨by rfl, ?_⟩
    intro wS hSw
    go_simp
    try with_reducible rfl
  try simp only [Act.put, List.setIfInBounds_toArray, List.set_cons_zero, List.set_cons_succ]
  refine wpAnyH_take (i := 8) (oi := ?oi8) (v := ?v8) ?hi8 (by kernel_rfl) (by kernel_rfl) (by kernel_rfl) ?hQ8 ?hy8 HS ?rest8
  case hi8 => simp only [List.getElem?_toArray, List.getElem?_cons_succ, List.getElem?_cons_zero]; exact rfl
  case hQ8 => exact fun _ _ _ h => h
  case hy8 =>
    refine Or.inl ⟨by rfl, ?_⟩
    intro wS hSw
    go_simp
    try with_reducible rfl
  try simp only [Act.put, List.setIfInBounds_toArray, List.set_cons_zero, List.set_cons_succ]
  refine wpAnyH_take (i := 9) (oi := ?oi9) (v := ?v9) ?hi9 (by kernel_rfl) (by kernel_rfl) (by kernel_rfl) ?hQ9 ?hy9 HS ?rest9
  case hi9 => simp only [List.getElem?_toArray, List.getElem?_cons_succ, List.getElem?_cons_zero]; exact rfl
  case hQ9 => exact fun _ _ _ h => h
  case hy9 =>
    refine Or.inl ⟨by rfl, ?_⟩
    intro wS hSw
    go_simp
    try with_reducible rfl
  try simp only [Act.put, List.setIfInBounds_toArray, List.set_cons_zero, List.set_cons_succ]
  refine wpAnyH_take (i := 10) (oi := ?oi10) (v := ?v10) ?hi10 (by kernel_rfl) (by kernel_rfl) (by kernel_rfl) ?hQ10 ?hy10 HS ?rest10
  case hi10 => simp only [List.getElem?_toArray, List.getElem?_cons_succ, List.getElem?_cons_zero]; exact rfl
  case hQ10 => exact fun _ _ _ h => h
  case hy10 =>
    refine Or.inl ⟨by rfl, ?_⟩
    intro wS hSw
    go_simp
    try with_reducible rfl
  try simp only [Act.put, List.setIfInBounds_toArray, List.set_cons_zero, List.set_cons_succ]
  refine wpAnyH_take (i := 11) (oi := ?oi11) (v := ?v11) ?hi11 (by kernel_rfl) (by kernel_rfl) (by kernel_rfl) ?hQ11 ?hy11 HS ?rest11
  case hi11 => simp only [List.getElem?_toArray, List.getElem?_cons_succ, List.getElem?_cons_zero]; exact rfl
  case hQ11 => exact fun _ _ _ h => h
  case hy11 =>
    refine Or.inl ⟨by rfl, ?_⟩
    intro wS hSw
    go_simp
    try with_reducible rfl
  try simp only [Act.put, List.setIfInBounds_toArray, List.set_cons_zero, List.set_cons_succ]
  refine wpAnyH_ready (rs := [12]) (by kernel_rfl) (by simp) ?_
  refine AllReadyH.cons (o := ?o12) ?ho12 (fun K hK => ?step12) AllReadyH.nil
  case ho12 => simp only [List.getElem?_toArray, List.getElem?_cons_succ, List.getElem?_cons_zero]; exact rfl
  go_simp
  refine (SY.out _ HS).mono ?_
  rintro e wa ⟨rfl, rfl⟩
  refine hK.out _ _ HS (fun HS => ?_)
  clear hK K
  try simp only [Act.put, List.setIfInBounds_toArray, List.set_cons_zero, List.set_cons_succ]
  refine wpAnyH_take (i := 13) (oi := ?oi13) (v := ?v13) ?hi13 (by kernel_rfl) (by kernel_rfl) (by kernel_rfl) ?hQ13 ?hy13 HS ?rest13
  case hi13 => simp only [List.getElem?_toArray, List.getElem?_cons_succ, List.getElem?_cons_zero]; exact rfl
  case hQ13 => exact fun _ _ _ h => h
  case hy13 =>
    refine Or.inl ⟨by rfl, ?_⟩
    intro wS hSw
    go_simp
    try with_reducible rfl
  try simp only [Act.put, List.setIfInBounds_toArray, List.set_cons_zero, List.set_cons_succ]
  refine wpAnyH_take (i := 14) (oi := ?oi14) (v := ?v14) ?hi14 (by kernel_rfl) (by kernel_rfl) (by kernel_rfl) ?hQ14 ?hy14 HS ?rest14
  case hi14 => simp only [List.getElem?_toArray, List.getElem?_cons_succ, List.getElem?_cons_zero]; exact rfl
  case hQ14 => exact fun _ _ _ h => h
  case hy14 =>
    refine Or.inl ⟨by rfl, ?_⟩
    intro wS hSw
    go_simp
    try with_reducible rfl
  try simp only [Act.put, List.setIfInBounds_toArray, List.set_cons_zero, List.set_cons_succ]
  refine wpAnyH_take (i := 15) (oi := ?oi15) (v := ?v15) ?hi15 (by kernel_rfl) (by kernel_rfl) (by kernel_rfl) ?hQ15 ?hy15 HS ?rest15
  case hi15 => simp only [List.getElem?_toArray, List.getElem?_cons_succ, List.getElem?_cons_zero]; exact rfl
  case hQ15 => exact fun _ _ _ h => h
  case hy15 =>
    refine Or.inl ⟨by rfl, ?_⟩
    intro wS hSw
    go_simp
    try with_reducible rfl
  try simp only [Act.put, List.setIfInBounds_toArray, List.set_cons_zero, List.set_cons_succ]
  refine wpAnyH_take (i := 16) (oi := ?oi16) (v := ?v16) ?hi16 (by kernel_rfl) (by kernel_rfl) (by kernel_rfl) ?hQ16 ?hy16 HS ?rest16
  case hi16 => simp only [List.getElem?_toArray, List.getElem?_cons_succ, List.getElem?_cons_zero]; exact rfl
  case hQ16 => exact fun _ _ _ h => h
  case hy16 =>
    refine Or.inl ⟨by rfl, ?_⟩
    intro wS hSw
    go_simp
    try with_reducible rfl
  try simp only [Act.put, List.setIfInBounds_toArray, List.set_cons_zero, List.set_cons_succ]
  refine wpAnyH_ready (rs := [17]) (by kernel_rfl) (by simp) ?_
  refine AllReadyH.cons (o := ?o17) ?ho17 (fun K hK => ?step17) AllReadyH.nil
  case ho17 => simp only [List.getElem?_toArray, List.getElem?_cons_succ, List.getElem?_cons_zero]; exact rfl
  go_simp
  refine (OV.out _ HS).mono ?_
  rintro e wb ⟨rfl, hbb⟩
  refine hK.out _ _ (HS.trans (hbb.mono HS.size)) (fun HS => ?_)
  clear hK K
  try simp only [Act.put, List.setIfInBounds_toArray, List.set_cons_zero, List.set_cons_succ]
  refine wpAnyH_take (i := 18) (oi := ?oi18) (v := ?v18) ?hi18 (by kernel_rfl) (by kernel_rfl) (by kernel_rfl) ?hQ18 ?hy18 HS ?rest18
  case hi18 => simp only [List.getElem?_toArray, List.getElem?_cons_succ, List.getElem?_cons_zero]; exact rfl
  case hQ18 => exact fun _ _ _ h => h
  case hy18 =>
    refine Or.inl ⟨by rfl, ?_⟩
    intro wS hSw
    go_simp
    try with_reducible rfl
  try simp only [Act.put, List.setIfInBounds_toArray, List.set_cons_zero, List.set_cons_succ]
  refine wpAnyH_take (i := 19) (oi := ?oi19) (v := ?v19) ?hi19 (by kernel_rfl) (by kernel_rfl) (by kernel_rfl) ?hQ19 ?hy19 HS ?rest19
  case hi19 => simp only [List.getElem?_toArray, List.getElem?_cons_succ, List.getElem?_cons_zero]; exact rfl
  case hQ19 => exact fun _ _ _ h => h
  case hy19 =>
    refine Or.inl ⟨by rfl, ?_⟩
    intro wS hSw
    go_simp
    try with_reducible rfl
  try simp only [Act.put, List.setIfInBounds_toArray, List.set_cons_zero, List.set_cons_succ]
  refine wpAnyH_take (i := 20) (oi := ?oi20) (v := ?v20) ?hi20 (by kernel_rfl) (by kernel_rfl) (by kernel_rfl) ?hQ20 ?hy20 HS ?rest20
  case hi20 => simp only [List.getElem?_toArray, List.getElem?_cons_succ, List.getElem?_cons_zero]; exact rfl
  case hQ20 => exact fun _ _ _ h => h
  case hy20 =>
    refine Or.inl ⟨by rfl, ?_⟩
    intro wS hSw
    go_simp
    try with_reducible rfl
  try simp only [Act.put, List.setIfInBounds_toArray, List.set_cons_zero, List.set_cons_succ]
  refine wpAnyH_take (i := 21) (oi := ?oi21) (v := ?v21) ?hi21 (by kernel_rfl) (by kernel_rfl) (by kernel_rfl) ?hQ21 ?hy21 HS ?rest21
  case hi21 => simp only [List.getElem?_toArray, List.getElem?_cons_succ, List.getElem?_cons_zero]; exact rfl
  case hQ21 => exact fun _ _ _ h => h
  case hy21 =>
    refine Or.inl ⟨by rfl, ?_⟩
    intro wS hSw
    go_simp
    try with_reducible rfl
  try simp only [Act.put, List.setIfInBounds_toArray, List.set_cons_zero, List.set_cons_succ]
  refine wpAnyH_ready (rs := [22]) (by kernel_rfl) (by simp) ?_
  refine AllReadyH.cons (o := ?o22) ?ho22 (fun K hK => ?step22) AllReadyH.nil
  case ho22 => simp only [List.getElem?_toArray, List.getElem?_cons_succ, List.getElem?_cons_zero]; exact rfl
  go_simp
  refine (BL.out _ HS).mono ?_
  rw [HN8.out]
  rintro e wc ⟨rfl, rfl⟩
  refine hK.out _ _ HS (fun HS => ?_)
  clear hK K
  try simp only [Act.put, List.setIfInBounds_toArray, List.set_cons_zero, List.set_cons_succ]
  refine wpAnyH_take (i := 23) (oi := ?oi23) (v := ?v23) ?hi23 (by kernel_rfl) (by kernel_rfl) (by kernel_rfl) ?hQ23 ?hy23 HS ?rest23
  case hi23 => simp only [List.getElem?_toArray, List.getElem?_cons_succ, List.getElem?_cons_zero]; exact rfl
  case hQ23 => exact fun _ _ _ h => h
  case hy23 =>
    refine Or.inl ⟨by rfl, ?_⟩
    intro wS hSw
    go_simp
    try with_reducible rfl
  try simp only [Act.put, List.setIfInBounds_toArray, List.set_cons_zero, List.set_cons_succ]
  refine wpAnyH_take (i := 24) (oi := ?oi24) (v := ?v24) ?hi24 (by kernel_rfl) (by kernel_rfl) (by kernel_rfl) ?hQ24 ?hy24 HS ?rest24
  case hi24 => simp only [List.getElem?_toArray, List.getElem?_cons_succ, List.getElem?_cons_zero]; exact rfl
  case hQ24 => exact fun _ _ _ h => h
  case hy24 =>
    refine Or.inl ⟨by rfl, ?_⟩
    intro wS hSw
    go_simp
    try with_reducible rfl
  try simp only [Act.put, List.setIfInBounds_toArray, List.set_cons_zero, List.set_cons_succ]
  refine wpAnyH_take (i := 25) (oi := ?oi25) (v := ?v25) ?hi25 (by kernel_rfl) (by kernel_rfl) (by kernel_rfl) ?hQ25 ?hy25 HS ?rest25
  case hi25 => simp only [List.getElem?_toArray, List.getElem?_cons_succ, List.getElem?_cons_zero]; exact rfl
  case hQ25 => exact fun _ _ _ h => h
  case hy25 =>
    refine Or.inl ⟨by rfl, ?_⟩
    intro wS hSw
    go_simp
    try with_reducible rfl
  try simp only [Act.put, List.setIfInBounds_toArray, List.set_cons_zero]
  refine wpAnyH_done (by kernel_rfl) ?_ _
  have HB9 := hid HS
  clear HS
  go_wp2
  go_ret
  exact ⟨rfl, HB8.out.trans (HB9.out.mono HB8.out.size)⟩
end Go.Proofs.Ytdgcoipflenlgaa
