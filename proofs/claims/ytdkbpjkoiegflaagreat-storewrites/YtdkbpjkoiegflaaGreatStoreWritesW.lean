/- The walk of StoreWrites: it answers true, whatever the input. -/
import Derived.Test.YtdkbpjkoiegflaaGreatRsA
import Derived.Test.YtdkbpjkoiegflaaGreatStPd
import Derived.Test.YtdkbpjkoiegflaaGreatStFirst
namespace Go.Proofs.YtdkbpjkoiegflaaGreat
open Go.RowKit

theorem bsl_wide {w : World} {hi hi' n : Nat} {A : Option Addr} {l : List Bb} (h : BSl w hi A n l) (hh : hi ≤ hi') : BSl w hi' A n l := ⟨h.1, fun j hj => by
  obtain ⟨b, off, h1, h2, h3⟩ := h.2 j hj
  exact ⟨b, off, h1, Nat.lt_of_lt_of_le h2 hh, h3⟩⟩
theorem ents_le {l : List Bb} (h : ∀ x ∈ l, x.wf ∧ x.nm.length ≤ 300) : (entsB l).length ≤ 380 * l.length := by
  induction l with
  | nil => exact Nat.zero_le _
  | cons x l ih =>
    have h1 := ih fun y hy => h y (List.mem_cons_of_mem _ hy)
    have h2 := h x (List.mem_cons_self)
    have h3 := entB_len h2.1
    have e : entsB (x :: l) = entB x ++ entsB l := rfl
    rw [e, List.length_append, List.length_cons]
    omega
theorem dir_le {l : List Bb} (h : ∀ x ∈ l, x.wf ∧ x.nm.length ≤ 300) (hn : l.length ≤ 60) : (dirB l).length ≤ 100000 := by
  have h1 := ents_le h
  have h2 := nat_len_u64 (n := l.length) (by omega)
  unfold dirB
  rw [List.length_append]
  omega
theorem rs_nc {w : World} {base c : Nat} {A : Option Addr} {l : List Bb} (h : w.ownsRow base 90 11 (.slice A l.length c) l.length (bcs l)) : l.length ≤ c := by
  rcases h.2 with ⟨hv, h0⟩ | ⟨g, cap, cur, hv, _, _, hnc, _⟩
  · omega
  · injection hv with _ _ h3
    omega
theorem own_snoc {l : List Bb} {j : Nat} (hj : j < l.length) : (l.take (j + 1)).map Bb.own = (l.take j).map Bb.own ++ [l[j].own] := by rw [List.take_succ_eq_append_getElem hj, List.map_append]; rfl
set_option maxRecDepth 100000 in
set_option maxHeartbeats 16000000 in
theorem walkStoreWrites (A : Option Addr) (n c : Nat) (w : World) (hbl : BlobsW w A n) :
    Calls Tryz.prog 5 #[.slice A n c] w fun e w' => e = .returned (.bool true) ∧ Below w.heap.size w w' := by
  obtain ⟨l, hl, hwf⟩ := hbl
  have HL := hid hl
  have HLN := hid hl.1
  have HWF := hid hwf
  clear hl hwf
  go_enter Tryz.func5, Tryz.ntmps5
  go_wp2_with fail
  refine (stfirst_c w).mono ?_
  rintro e w1 ⟨rfl, hb1⟩
  have HB1 := hid hb1
  clear hb1
  by_cases hbig : 60 < n
  · have e1 : decide ((60 : Int) < (n : Int)) = true := by simp; omega
    have e2 : decide (60 < n) = true := decide_eq_true hbig
    clear hbig
    go_wp2
    go_ret
    exact ⟨rfl, HB1.out⟩
  have e1 : decide ((60 : Int) < (n : Int)) = false := by simp; omega
  have e2 : decide (60 < n) = false := decide_eq_false hbig
  have HN : Hid (n ≤ 60) := hid (by omega)
  clear hbig
  go_wp2_with fail
  clear e1 e2
  go_loopg [18] n (fun kk iv wr => ∃ j : Nat, iv = .int .i64 (j : Int) ∧ Hid (kk = n - j) ∧ Hid (j ≤ n) ∧ Hid (∀ k, ∀ h2 : k < l.length, k < j → l[k].nm.length ≤ 300) ∧ Hid (Below w.heap.size w wr))
  case atStart => exact ⟨0, rfl, hid rfl, hid (Nat.zero_le _), hid (fun k _ h3 => absurd h3 (Nat.not_lt_zero k)), HB1⟩
  case round =>
  obtain ⟨j, rfl, hgk, hj, hS, hB⟩ := hrel
  clear HB1
  rename World => wr
  rcases Nat.lt_or_ge j n with hlt | hge
  · have HJ := hid hlt
    have hjl : j < l.length := by rw [HLN.out]; exact hlt
    have j1 : (0 : Int) ≤ (j : Int) := Int.natCast_nonneg j
    have j2 : (j : Int) < (n : Int) := Int.ofNat_lt.2 hlt
    have j3 : decide ((j : Int) < (n : Int)) = true := decide_eq_true j2
    have j4 : decide (j < n) = true := decide_eq_true hlt
    have wj : wrap64 ((j : Int) + 1) = ((j + 1 : Nat) : Int) := rs_w (Nat.le_trans HN.out (by decide)) hlt
    obtain ⟨b, off, rfl, hbl, hr⟩ := HL.out.2 j hjl
    have HST : Hid (l[j].nm.length ≤ 300 → ∀ k, ∀ h2 : k < l.length, k < j + 1 → l[k].nm.length ≤ 300) := hid (fun h k h2 h3 => by
      by_cases e : k = j
      · subst e; exact h
      · exact hS.out k h2 (by omega))
    have HXM := hid (HWF.out _ (List.getElem_mem hjl)).2
    generalize l[j] = x at *
    obtain ⟨c0, c1, c2, c3, c4, c5, c6, c7, c8, c9, c10⟩ := range11 (rangeAt_keep hr (hB.out.block b hbl))
    have HBX := hid (Blk.new wr 90 #[.string (str x.nm), .int .i64 x.k.t, .int .i64 x.k.c, .int .i64 x.k.e, .int .i64 x.b, .int .i64 x.p.k.t, .int .i64 x.p.k.c, .int .i64 x.p.k.e, .int .i64 x.p.id, .int .i64 x.p.ver, .int .i64 x.sz])
    have HB2 : Hid (Below w.heap.size w (wr.alloc (.cells #[.string (str x.nm), .int .i64 x.k.t, .int .i64 x.k.c, .int .i64 x.k.e, .int .i64 x.b, .int .i64 x.p.k.t, .int .i64 x.p.k.c, .int .i64 x.p.k.e, .int .i64 x.p.id, .int .i64 x.p.ver, .int .i64 x.sz] 90))) := hid (hB.out.alloc hB.out.size _)
    have x0 := (HBX.out.cell 0).trans rfl
    have hsz := str_size x.nm
    clear hlt hjl hbl hr
    by_cases hn3 : 300 < x.nm.length
    · have f1 : decide ((300 : Int) < (x.nm.length : Int)) = true := by simp; omega
      have f2 : decide (300 < x.nm.length) = true := decide_eq_true hn3
      clear hn3
      go_wp2
      go_ret
      exact ⟨rfl, HB2.out⟩
    · have f1 : decide ((300 : Int) < (x.nm.length : Int)) = false := by simp; omega
      have f2 : decide (300 < x.nm.length) = false := decide_eq_false hn3
      have HS2 := hid (HST.out (Nat.not_lt.1 hn3))
      clear hn3
      go_wp2_with fail
      go_roundg (n - (j + 1))
      case measure => exact rs_meas hgk.out HJ.out
      case rel => exact ⟨j + 1, by first | rfl | rw [wj], hid rfl, hid HJ.out, HS2, HB2⟩
  have hjn : j = n := by have := hj.out; omega
  subst hjn
  have j2 : ¬ (j : Int) < (j : Int) := fun e => absurd e (Int.lt_irrefl _)
  have HW3 : Hid (∀ x ∈ l, x.wf ∧ x.nm.length ≤ 300) := hid (fun x hx => by
    obtain ⟨k, hk, rfl⟩ := List.mem_iff_getElem.1 hx
    exact ⟨(HWF.out _ hx).1, hS.out k hk (by rw [← HLN.out]; exact hk)⟩)
  have HDL := hid (dir_le HW3.out (by rw [HLN.out]; exact HN.out))
  clear hge hj hgk hS
  go_wp2_with fail
  refine (directory_c A j c l wr (bsl_wide (HL.out.keep hB.out) hB.out.size) (fun x hx => (HW3.out x hx).1) (fun x hx => Nat.le_trans (HW3.out x hx).2 (by decide)) (Nat.le_trans HN.out (by decide)) (Nat.le_trans HDL.out (by decide))).mono ?_
  intro e w4 hr4
  obtain ⟨A4, m4, c4, rfl, hm4, hc4, ho4, hB4, hb4⟩ := hr4.out
  have HB4 := hid (hB.out.trans (hb4.mono hB.out.size))
  have HO4 := hid ho4
  have HM4 : Hid (m4 ≤ 1000000000) := hid (by have := hm4.out; have := HDL.out; omega)
  have HT4 := hid hB4
  clear hr4 hm4 hc4 ho4 hB4 hb4 hB
  go_wp2_with fail
  refine (parse_c A4 m4 c4 (dirB l) w4 (HT4.out.wide (Nat.zero_le _) (Nat.le_refl _)) HM4.out).mono ?_
  rintro e w5 ⟨A5, m5, c5, rfl, hm5, hr5, hb5⟩
  obtain ⟨M, hM⟩ : ∃ M, M = l.map Bb.own := ⟨_, rfl⟩
  have hpar := parB_dir (l := l) (fun x hx => (HW3.out x hx).1) (by rw [HLN.out]; have := HN.out; omega)
  rw [← hM] at hpar
  obtain ⟨PL, hPL⟩ : ∃ PL, PL = (parB (dirB l)).getD [] := ⟨_, rfl⟩
  obtain ⟨q, hq⟩ : ∃ q, q = (parB (dirB l)).isSome := ⟨_, rfl⟩
  rw [← hPL] at hm5 hr5
  rw [← hq]
  have HQR : Hid (decide (Rgt M) = q ∧ (q = true → PL = M)) := hid (by
    rw [hq, hPL, hpar]
    by_cases hR : Rgt M
    · rw [if_pos hR]; exact ⟨decide_eq_true hR, fun _ => rfl⟩
    · rw [if_neg hR]; exact ⟨decide_eq_false hR, fun e => by cases e⟩)
  have HMM := hid hM
  have HB5 := hid (HB4.out.trans (hb5.mono HB4.out.size))
  have HO5 := hid (World.ownsRow.below HO4.out hb5)
  subst hm5
  have HR5 : Hid (BRow 90 w5 w4.heap.size A5 c5 PL) := hid hr5
  clear hb5 hr5 hpar hPL hq hM HO4 HB4 HT4
  go_wp2_with fail
  go_loopg [8, 36] j (fun kk mv iv wr => ∃ (k : Nat) (A8 : Option Addr) (c8 : Nat), mv = .slice A8 k c8 ∧ iv = .int .i64 (k : Int) ∧ Hid (kk = j - k) ∧ Hid (k ≤ j) ∧ Hid (wr.ownsRow w5.heap.size 90 11 (.slice A8 k c8) k (bcs ((l.take k).map Bb.own))) ∧ Hid (Below w5.heap.size w5 wr))
  case atStart => exact ⟨0, none, 0, rfl, rfl, hid rfl, hid (Nat.zero_le _), hid (own_nilrow _ _ _ _), hid (Below.refl _ _)⟩
  case round =>
  obtain ⟨k, A8, c8, rfl, rfl, hgk, hk, hR, hB⟩ := hrel
  rename World => wr
  rcases Nat.lt_or_ge k j with hlt | hge
  · have HK := hid hlt
    have hkl : k < l.length := by rw [HLN.out]; exact hlt
    have k1 : (0 : Int) ≤ (k : Int) := Int.natCast_nonneg k
    have k2 : (k : Int) < (j : Int) := Int.ofNat_lt.2 hlt
    have k3 : decide ((k : Int) < (j : Int)) = true := decide_eq_true k2
    have k4 : decide (k < j) = true := decide_eq_true hlt
    have wk : wrap64 ((k : Int) + 1) = ((k + 1 : Nat) : Int) := rs_w (Nat.le_trans HN.out (by decide)) hlt
    obtain ⟨b, off, rfl, hbl, hr⟩ := HL.out.2 k hkl
    have HSN := hid (own_snoc hkl)
    have HLT : Hid (((l.take k).map Bb.own).length = k) := hid (by rw [List.length_map, List.length_take]; omega)
    generalize l[k] = x at *
    generalize (l.take k).map Bb.own = P at *
    have hbw := HB5.out.trans (hB.out.mono HB5.out.size)
    obtain ⟨c0, c1, c2, c3, c4', c5', c6, c7, c8', c9, c10⟩ := range11 (rangeAt_keep hr (hbw.block b hbl))
    clear hlt hkl hbl hr hbw
    have HRO := hid (hR.out.alloc (.cells #[.string (str x.nm), .int .i64 x.k.t, .int .i64 x.k.c, .int .i64 x.k.e, .int .i64 x.b, .int .i64 x.k.t, .int .i64 x.k.c, .int .i64 x.k.e, .int .i64 x.p.id, .int .i64 x.p.ver, .int .i64 x.sz] 90))
    have hszz : (wr.alloc (.cells #[.string (str x.nm), .int .i64 x.k.t, .int .i64 x.k.c, .int .i64 x.k.e, .int .i64 x.b, .int .i64 x.k.t, .int .i64 x.k.c, .int .i64 x.k.e, .int .i64 x.p.id, .int .i64 x.p.ver, .int .i64 x.sz] 90)).heap.size = wr.heap.size + 1 := by simp
    go_wp2_with (at_builtin; refine wpList_appB (wr.alloc (.cells #[.string (str x.nm), .int .i64 x.k.t, .int .i64 x.k.c, .int .i64 x.k.e, .int .i64 x.b, .int .i64 x.k.t, .int .i64 x.k.c, .int .i64 x.k.e, .int .i64 x.p.id, .int .i64 x.p.ver, .int .i64 x.sz] 90)) rfl _ _ rfl w5.heap.size A8 c8 P k HLT.out rfl HRO.out ⟨x.nm, x.k, x.b, ⟨x.k, x.p.id, x.p.ver⟩, x.sz⟩ _ hszz rfl (Nat.le_trans hk.out (Nat.le_trans HN.out (by decide))) (Nat.le_trans hB.out.size (by simp)) ?_)
    intro A9 c9' w9 ho9 hb9 _
    have HO9 : Hid (w9.ownsRow w5.heap.size 90 11 (.slice A9 (k + 1) c9') (k + 1) (bcs ((l.take (k + 1)).map Bb.own))) := hid (by rw [HSN.out, bcs_app, bcs_one]; exact ho9)
    have HB9 := hid ((hB.out.alloc hB.out.size _).trans hb9)
    clear ho9 hb9
    go_wp2_with fail
    go_roundg (j - (k + 1))
    case measure => exact rs_meas hgk.out HK.out
    case rel => exact ⟨k + 1, A9, c9', rfl, by first | rfl | rw [wk], hid rfl, hid HK.out, HO9, HB9⟩
  have hkj : k = j := by have := hk.out; omega
  subst hkj
  have k2 : ¬ (k : Int) < (k : Int) := fun e => absurd e (Int.lt_irrefl _)
  have HMK : Hid ((l.take k).map Bb.own = M ∧ M.length = k) := hid ⟨by rw [List.take_of_length_le (Nat.le_of_eq HLN.out), HMM.out], by rw [HMM.out, List.length_map, HLN.out]⟩
  have HRM : Hid (BRow 90 wr w5.heap.size A8 c8 M) := hid (by have := hR.out; rw [HMK.out.1] at this; unfold BRow; rw [HMK.out.2]; exact this)
  have HRP : Hid (BRow 90 wr w4.heap.size A5 c5 PL) := hid (World.ownsRow.below HR5.out hB.out)
  have HO6 := hid (World.ownsRow.below HO5.out hB.out)
  have HB6 := hid (HB5.out.trans (hB.out.mono HB5.out.size))
  have HMN : Hid (∀ x ∈ M, x.nm.length ≤ maxLen) := hid (fun x hx => by
    rw [HMM.out] at hx
    obtain ⟨y, hy, rfl⟩ := List.mem_map.1 hx
    exact (HWF.out y hy).2)
  clear hge hk hgk hR hB HO5 HB5 HR5
  go_wp2_with fail
  have hdr : Below wr.heap.size wr wr.drew := (Below.refl _ _).drew
  cases q with
  | true =>
    refine wp_region_held_drew (S := fun wx => Below wr.heap.size wr wx) (by kernel_rfl) hdr (fun HS => ?_)
    refine wpAnyH_take (i := 0) (oi := ?oit0) (v := ?vt0) ?hit0 (by kernel_rfl) (by kernel_rfl) (by kernel_rfl) ?hQt0 ?hyt0 HS ?restt0
    case hit0 => simp only [List.getElem?_toArray, List.getElem?_cons_zero]; exact rfl
    case hQt0 => exact fun _ _ _ h => h
    case hyt0 =>
      refine Or.inl ⟨by rfl, ?_⟩
      intro wS hSw
      go_simp
      try with_reducible rfl
    try simp only [Act.put, List.setIfInBounds_toArray, List.set_cons_zero, List.set_cons_succ]
    refine wpAnyH_take (i := 2) (oi := ?oit2) (v := ?vt2) ?hit2 (by kernel_rfl) (by kernel_rfl) (by kernel_rfl) ?hQt2 ?hyt2 HS ?restt2
    case hit2 => simp only [List.getElem?_toArray, List.getElem?_cons_succ, List.getElem?_cons_zero]; exact rfl
    case hQt2 => exact fun _ _ _ h => h
    case hyt2 =>
      refine Or.inl ⟨by rfl, ?_⟩
      intro wS hSw
      go_simp
      try with_reducible rfl
    try simp only [Act.put, List.setIfInBounds_toArray, List.set_cons_zero, List.set_cons_succ]
    refine wpAnyH_take (i := 1) (oi := ?oit1) (v := ?vt1) ?hit1 (by kernel_rfl) (by kernel_rfl) (by kernel_rfl) ?hQt1 ?hyt1 HS ?restt1
    case hit1 => simp only [List.getElem?_toArray, List.getElem?_cons_succ, List.getElem?_cons_zero]; exact rfl
    case hQt1 => exact fun _ _ _ h => h
    case hyt1 =>
      refine Or.inl ⟨by rfl, ?_⟩
      intro wS hSw
      have hcv := own_str (c := c4) (World.ownsRow.below HO6.out hSw)
      go_simp
      try with_reducible rfl
    try simp only [Act.put, List.setIfInBounds_toArray, List.set_cons_zero, List.set_cons_succ]
    refine wpAnyH_ready (rs := [3]) (by kernel_rfl) (by simp) ?_
    refine AllReadyH.cons (o := ?ot3) ?hot3 (fun K hK => ?stept3) AllReadyH.nil
    case hot3 => simp only [List.getElem?_toArray, List.getElem?_cons_succ, List.getElem?_cons_zero]; exact rfl
    go_simp
    refine (rdir_c A k c l _ (bsl_wide (HL.out.keep (HB6.out.trans (hdr.mono HB6.out.size))) (Nat.le_trans HB6.out.size hdr.size)) (fun x hx => (HW3.out x hx).1) (fun x hx => Nat.le_trans (HW3.out x hx).2 (by decide)) (Nat.le_trans HN.out (by decide)) (Nat.le_trans HDL.out (by decide))).mono ?_
    intro e w7 hr7
    obtain ⟨A7, m7, c7, rfl, hm7, hc7, ho7, hB7, hb7⟩ := hr7.out
    have HB7 : Hid (Below wr.heap.size wr w7) := hid (hdr.trans (hb7.mono hdr.size))
    have hcv7 := own_str (c := c7) ho7
    clear hr7 hm7 hc7 hB7 hb7 ho7
    refine hK.out _ _ HB7.out (fun HS => ?_)
    clear hK K
    try simp only [Act.put, List.setIfInBounds_toArray, List.set_cons_zero, List.set_cons_succ]
    refine wpAnyH_ready (rs := [4]) (by kernel_rfl) (by simp) ?_
    refine AllReadyH.cons (o := ?ot4) ?hot4 (fun K hK => ?stept4) AllReadyH.nil
    case hot4 => simp only [List.getElem?_toArray, List.getElem?_cons_succ, List.getElem?_cons_zero]; exact rfl
    go_simp
    refine hK.out _ _ HB7.out (fun HS => ?_)
    clear hK K
    try simp only [Act.put, List.setIfInBounds_toArray, List.set_cons_zero, List.set_cons_succ]
    refine wpAnyH_take (i := 5) (oi := ?oit5) (v := ?vt5) ?hit5 (by kernel_rfl) (by kernel_rfl) (by kernel_rfl) ?hQt5 ?hyt5 HS ?restt5
    case hit5 => simp only [List.getElem?_toArray, List.getElem?_cons_succ, List.getElem?_cons_zero]; exact rfl
    case hQt5 => exact fun _ _ _ h => h
    case hyt5 =>
      refine Or.inl ⟨by rfl, ?_⟩
      intro wS hSw
      go_simp
      try with_reducible rfl
    try simp only [Act.put, List.setIfInBounds_toArray, List.set_cons_zero, List.set_cons_succ]
    refine wpAnyH_take (i := 6) (oi := ?oit6) (v := ?vt6) ?hit6 (by kernel_rfl) (by kernel_rfl) (by kernel_rfl) ?hQt6 ?hyt6 HS ?restt6
    case hit6 => simp only [List.getElem?_toArray, List.getElem?_cons_succ, List.getElem?_cons_zero]; exact rfl
    case hQt6 => exact fun _ _ _ h => h
    case hyt6 =>
      refine Or.inl ⟨by rfl, ?_⟩
      intro wS hSw
      go_simp
      try with_reducible rfl
    try simp only [Act.put, List.setIfInBounds_toArray, List.set_cons_zero, List.set_cons_succ]
    refine wpAnyH_take (i := 7) (oi := ?oit7) (v := ?vt7) ?hit7 (by kernel_rfl) (by kernel_rfl) (by kernel_rfl) ?hQt7 ?hyt7 HS ?restt7
    case hit7 => simp only [List.getElem?_toArray, List.getElem?_cons_succ, List.getElem?_cons_zero]; exact rfl
    case hQt7 => exact fun _ _ _ h => h
    case hyt7 =>
      refine Or.inl ⟨by rfl, ?_⟩
      intro wS hSw
      go_simp
      try with_reducible rfl
    try simp only [Act.put, List.setIfInBounds_toArray, List.set_cons_zero, List.set_cons_succ]
    refine wpAnyH_take (i := 8) (oi := ?oit8) (v := ?vt8) ?hit8 (by kernel_rfl) (by kernel_rfl) (by kernel_rfl) ?hQt8 ?hyt8 HS ?restt8
    case hit8 => simp only [List.getElem?_toArray, List.getElem?_cons_succ, List.getElem?_cons_zero]; exact rfl
    case hQt8 => exact fun _ _ _ h => h
    case hyt8 =>
      refine Or.inl ⟨by rfl, ?_⟩
      intro wS hSw
      go_simp
      try with_reducible rfl
    try simp only [Act.put, List.setIfInBounds_toArray, List.set_cons_zero, List.set_cons_succ]
    refine wpAnyH_ready (rs := [9]) (by kernel_rfl) (by simp) ?_
    refine AllReadyH.cons (o := ?ot9) ?hot9 (fun K hK => ?stept9) AllReadyH.nil
    case hot9 => simp only [List.getElem?_toArray, List.getElem?_cons_succ, List.getElem?_cons_zero]; exact rfl
    rw [if_pos (by rfl)]
    go_simp
    refine (rsright_c A8 k c8 M w7 (by have := BRow.sl (World.ownsRow.below HRM.out HB7.out : BRow 90 w7 w5.heap.size A8 c8 M); rwa [HMK.out.2] at this) (by have h := World.ownsRow.below HRM.out HB7.out; rw [← HMK.out.2]; exact rs_nc h) (Nat.le_trans HN.out (by decide)) HMN.out).mono ?_
    rintro e w8 ⟨rfl, hb8⟩
    rw [HQR.out.1]
    have HB8 : Hid (Below wr.heap.size wr w8) := hid (HB7.out.trans (hb8.mono HB7.out.size))
    clear hb8
    refine hK.out _ _ HB8.out (fun HS => ?_)
    clear hK K
    try simp only [Act.put, List.setIfInBounds_toArray, List.set_cons_zero, List.set_cons_succ]
    refine wpAnyH_take (i := 10) (oi := ?oit10) (v := ?vt10) ?hit10 (by kernel_rfl) (by kernel_rfl) (by kernel_rfl) ?hQt10 ?hyt10 HS ?restt10
    case hit10 => simp only [List.getElem?_toArray, List.getElem?_cons_succ, List.getElem?_cons_zero]; exact rfl
    case hQt10 => exact fun _ _ _ h => h
    case hyt10 =>
      refine Or.inl ⟨by rfl, ?_⟩
      intro wS hSw
      go_simp
      try with_reducible rfl
    try simp only [Act.put, List.setIfInBounds_toArray, List.set_cons_zero, List.set_cons_succ]
    refine wpAnyH_take (i := 11) (oi := ?oit11) (v := ?vt11) ?hit11 (by kernel_rfl) (by kernel_rfl) (by kernel_rfl) ?hQt11 ?hyt11 HS ?restt11
    case hit11 => simp only [List.getElem?_toArray, List.getElem?_cons_succ, List.getElem?_cons_zero]; exact rfl
    case hQt11 => exact fun _ _ _ h => h
    case hyt11 =>
      refine Or.inl ⟨by rfl, ?_⟩
      intro wS hSw
      go_simp
      try with_reducible rfl
    try simp only [Act.put, List.setIfInBounds_toArray, List.set_cons_zero, List.set_cons_succ]
    refine wpAnyH_take (i := 12) (oi := ?oit12) (v := ?vt12) ?hit12 (by kernel_rfl) (by kernel_rfl) (by kernel_rfl) ?hQt12 ?hyt12 HS ?restt12
    case hit12 => simp only [List.getElem?_toArray, List.getElem?_cons_succ, List.getElem?_cons_zero]; exact rfl
    case hQt12 => exact fun _ _ _ h => h
    case hyt12 =>
      refine Or.inl ⟨by rfl, ?_⟩
      intro wS hSw
      go_simp
      try with_reducible rfl
    try simp only [Act.put, List.setIfInBounds_toArray, List.set_cons_zero, List.set_cons_succ]
    refine wpAnyH_take (i := 13) (oi := ?oit13) (v := ?vt13) ?hit13 (by kernel_rfl) (by kernel_rfl) (by kernel_rfl) ?hQt13 ?hyt13 HS ?restt13
    case hit13 => simp only [List.getElem?_toArray, List.getElem?_cons_succ, List.getElem?_cons_zero]; exact rfl
    case hQt13 => exact fun _ _ _ h => h
    case hyt13 =>
      refine Or.inl ⟨by rfl, ?_⟩
      intro wS hSw
      go_simp
      try with_reducible rfl
    try simp only [Act.put, List.setIfInBounds_toArray, List.set_cons_zero, List.set_cons_succ]
    refine wpAnyH_take (i := 14) (oi := ?oit14) (v := ?vt14) ?hit14 (by kernel_rfl) (by kernel_rfl) (by kernel_rfl) ?hQt14 ?hyt14 HS ?restt14
    case hit14 => simp only [List.getElem?_toArray, List.getElem?_cons_succ, List.getElem?_cons_zero]; exact rfl
    case hQt14 => exact fun _ _ _ h => h
    case hyt14 =>
      refine Or.inl ⟨by rfl, ?_⟩
      intro wS hSw
      go_simp
      try with_reducible rfl
    try simp only [Act.put, List.setIfInBounds_toArray, List.set_cons_zero, List.set_cons_succ]
    refine wpAnyH_take (i := 15) (oi := ?oit15) (v := ?vt15) ?hit15 (by kernel_rfl) (by kernel_rfl) (by kernel_rfl) ?hQt15 ?hyt15 HS ?restt15
    case hit15 => simp only [List.getElem?_toArray, List.getElem?_cons_succ, List.getElem?_cons_zero]; exact rfl
    case hQt15 => exact fun _ _ _ h => h
    case hyt15 =>
      refine Or.inl ⟨by rfl, ?_⟩
      intro wS hSw
      go_simp
      try with_reducible rfl
    try simp only [Act.put, List.setIfInBounds_toArray, List.set_cons_zero, List.set_cons_succ]
    refine wpAnyH_take (i := 16) (oi := ?oit16) (v := ?vt16) ?hit16 (by kernel_rfl) (by kernel_rfl) (by kernel_rfl) ?hQt16 ?hyt16 HS ?restt16
    case hit16 => simp only [List.getElem?_toArray, List.getElem?_cons_succ, List.getElem?_cons_zero]; exact rfl
    case hQt16 => exact fun _ _ _ h => h
    case hyt16 =>
      refine Or.inl ⟨by rfl, ?_⟩
      intro wS hSw
      go_simp
      try with_reducible rfl
    try simp only [Act.put, List.setIfInBounds_toArray, List.set_cons_zero, List.set_cons_succ]
    refine wpAnyH_take (i := 17) (oi := ?oit17) (v := ?vt17) ?hit17 (by kernel_rfl) (by kernel_rfl) (by kernel_rfl) ?hQt17 ?hyt17 HS ?restt17
    case hit17 => simp only [List.getElem?_toArray, List.getElem?_cons_succ, List.getElem?_cons_zero]; exact rfl
    case hQt17 => exact fun _ _ _ h => h
    case hyt17 =>
      refine Or.inl ⟨by rfl, ?_⟩
      intro wS hSw
      go_simp
      try with_reducible rfl
    try simp only [Act.put, List.setIfInBounds_toArray, List.set_cons_zero, List.set_cons_succ]
    refine wpAnyH_ready (rs := [18]) (by kernel_rfl) (by simp) ?_
    refine AllReadyH.cons (o := ?ot18) ?hot18 (fun K hK => ?stept18) AllReadyH.nil
    case hot18 => simp only [List.getElem?_toArray, List.getElem?_cons_succ, List.getElem?_cons_zero]; exact rfl
    rw [if_pos (by rfl)]
    go_simp
    refine (show Calls Tryz.prog 29 #[.slice A5 PL.length c5, .slice A8 k c8] w8 (fun e w' => e = .returned (.bool true) ∧ Below w8.heap.size w8 w') from by
      have h := ssame_c (World.ownsRow.below HRP.out HB8.out : BRow 90 w8 w4.heap.size A5 c5 PL) (World.ownsRow.below HRM.out HB8.out : BRow 90 w8 w5.heap.size A8 c8 M) (by rw [HQR.out.2 rfl, HMK.out.2]; exact Nat.le_trans HN.out (by decide))
      rw [show decide (PL = M) = true from decide_eq_true (HQR.out.2 rfl), HMK.out.2] at h
      exact h).mono ?_
    rintro e w9 ⟨rfl, hb9⟩
    have HB9 : Hid (Below wr.heap.size wr w9) := hid (HB8.out.trans (hb9.mono HB8.out.size))
    clear hb9
    refine hK.out _ _ HB9.out (fun HS => ?_)
    clear hK K
    try simp only [Act.put, List.setIfInBounds_toArray, List.set_cons_zero, List.set_cons_succ]
    refine wpAnyH_take (i := 19) (oi := ?oit19) (v := ?vt19) ?hit19 (by kernel_rfl) (by kernel_rfl) (by kernel_rfl) ?hQt19 ?hyt19 HS ?restt19
    case hit19 => simp only [List.getElem?_toArray, List.getElem?_cons_succ, List.getElem?_cons_zero]; exact rfl
    case hQt19 => exact fun _ _ _ h => h
    case hyt19 =>
      refine Or.inl ⟨by rfl, ?_⟩
      intro wS hSw
      go_simp
      try with_reducible rfl
    try simp only [Act.put, List.setIfInBounds_toArray, List.set_cons_zero, List.set_cons_succ]
    refine wpAnyH_take (i := 20) (oi := ?oit20) (v := ?vt20) ?hit20 (by kernel_rfl) (by kernel_rfl) (by kernel_rfl) ?hQt20 ?hyt20 HS ?restt20
    case hit20 => simp only [List.getElem?_toArray, List.getElem?_cons_succ, List.getElem?_cons_zero]; exact rfl
    case hQt20 => exact fun _ _ _ h => h
    case hyt20 =>
      refine Or.inl ⟨by rfl, ?_⟩
      intro wS hSw
      go_simp
      try with_reducible rfl
    try simp only [Act.put, List.setIfInBounds_toArray, List.set_cons_zero, List.set_cons_succ]
    refine wpAnyH_take (i := 21) (oi := ?oit21) (v := ?vt21) ?hit21 (by kernel_rfl) (by kernel_rfl) (by kernel_rfl) ?hQt21 ?hyt21 HS ?restt21
    case hit21 => simp only [List.getElem?_toArray, List.getElem?_cons_succ, List.getElem?_cons_zero]; exact rfl
    case hQt21 => exact fun _ _ _ h => h
    case hyt21 =>
      refine Or.inl ⟨by rfl, ?_⟩
      intro wS hSw
      go_simp
      try with_reducible rfl
    try simp only [Act.put, List.setIfInBounds_toArray, List.set_cons_zero, List.set_cons_succ]
    refine wpAnyH_done (by kernel_rfl) ?_ _
    have HF : Hid (Below w.heap.size w w9) := hid (HB6.out.trans (HB9.out.mono HB6.out.size))
    go_wp2
    go_ret
    exact ⟨rfl, HF.out⟩
  | false =>
    refine wp_region_held_drew (S := fun wx => Below wr.heap.size wr wx) (by kernel_rfl) hdr (fun HS => ?_)
    refine wpAnyH_take (i := 0) (oi := ?oif0) (v := ?vf0) ?hif0 (by kernel_rfl) (by kernel_rfl) (by kernel_rfl) ?hQf0 ?hyf0 HS ?restf0
    case hif0 => simp only [List.getElem?_toArray, List.getElem?_cons_zero]; exact rfl
    case hQf0 => exact fun _ _ _ h => h
    case hyf0 =>
      refine Or.inl ⟨by rfl, ?_⟩
      intro wS hSw
      go_simp
      try with_reducible rfl
    try simp only [Act.put, List.setIfInBounds_toArray, List.set_cons_zero, List.set_cons_succ]
    refine wpAnyH_take (i := 2) (oi := ?oif2) (v := ?vf2) ?hif2 (by kernel_rfl) (by kernel_rfl) (by kernel_rfl) ?hQf2 ?hyf2 HS ?restf2
    case hif2 => simp only [List.getElem?_toArray, List.getElem?_cons_succ, List.getElem?_cons_zero]; exact rfl
    case hQf2 => exact fun _ _ _ h => h
    case hyf2 =>
      refine Or.inl ⟨by rfl, ?_⟩
      intro wS hSw
      go_simp
      try with_reducible rfl
    try simp only [Act.put, List.setIfInBounds_toArray, List.set_cons_zero, List.set_cons_succ]
    refine wpAnyH_take (i := 1) (oi := ?oif1) (v := ?vf1) ?hif1 (by kernel_rfl) (by kernel_rfl) (by kernel_rfl) ?hQf1 ?hyf1 HS ?restf1
    case hif1 => simp only [List.getElem?_toArray, List.getElem?_cons_succ, List.getElem?_cons_zero]; exact rfl
    case hQf1 => exact fun _ _ _ h => h
    case hyf1 =>
      refine Or.inl ⟨by rfl, ?_⟩
      intro wS hSw
      have hcv := own_str (c := c4) (World.ownsRow.below HO6.out hSw)
      go_simp
      try with_reducible rfl
    try simp only [Act.put, List.setIfInBounds_toArray, List.set_cons_zero, List.set_cons_succ]
    refine wpAnyH_ready (rs := [3]) (by kernel_rfl) (by simp) ?_
    refine AllReadyH.cons (o := ?of3) ?hof3 (fun K hK => ?stepf3) AllReadyH.nil
    case hof3 => simp only [List.getElem?_toArray, List.getElem?_cons_succ, List.getElem?_cons_zero]; exact rfl
    go_simp
    refine (rdir_c A k c l _ (bsl_wide (HL.out.keep (HB6.out.trans (hdr.mono HB6.out.size))) (Nat.le_trans HB6.out.size hdr.size)) (fun x hx => (HW3.out x hx).1) (fun x hx => Nat.le_trans (HW3.out x hx).2 (by decide)) (Nat.le_trans HN.out (by decide)) (Nat.le_trans HDL.out (by decide))).mono ?_
    intro e w7 hr7
    obtain ⟨A7, m7, c7, rfl, hm7, hc7, ho7, hB7, hb7⟩ := hr7.out
    have HB7 : Hid (Below wr.heap.size wr w7) := hid (hdr.trans (hb7.mono hdr.size))
    have hcv7 := own_str (c := c7) ho7
    clear hr7 hm7 hc7 hB7 hb7 ho7
    refine hK.out _ _ HB7.out (fun HS => ?_)
    clear hK K
    try simp only [Act.put, List.setIfInBounds_toArray, List.set_cons_zero, List.set_cons_succ]
    refine wpAnyH_ready (rs := [4]) (by kernel_rfl) (by simp) ?_
    refine AllReadyH.cons (o := ?of4) ?hof4 (fun K hK => ?stepf4) AllReadyH.nil
    case hof4 => simp only [List.getElem?_toArray, List.getElem?_cons_succ, List.getElem?_cons_zero]; exact rfl
    go_simp
    refine hK.out _ _ HB7.out (fun HS => ?_)
    clear hK K
    try simp only [Act.put, List.setIfInBounds_toArray, List.set_cons_zero, List.set_cons_succ]
    refine wpAnyH_take (i := 5) (oi := ?oif5) (v := ?vf5) ?hif5 (by kernel_rfl) (by kernel_rfl) (by kernel_rfl) ?hQf5 ?hyf5 HS ?restf5
    case hif5 => simp only [List.getElem?_toArray, List.getElem?_cons_succ, List.getElem?_cons_zero]; exact rfl
    case hQf5 => exact fun _ _ _ h => h
    case hyf5 =>
      refine Or.inl ⟨by rfl, ?_⟩
      intro wS hSw
      go_simp
      try with_reducible rfl
    try simp only [Act.put, List.setIfInBounds_toArray, List.set_cons_zero, List.set_cons_succ]
    refine wpAnyH_take (i := 6) (oi := ?oif6) (v := ?vf6) ?hif6 (by kernel_rfl) (by kernel_rfl) (by kernel_rfl) ?hQf6 ?hyf6 HS ?restf6
    case hif6 => simp only [List.getElem?_toArray, List.getElem?_cons_succ, List.getElem?_cons_zero]; exact rfl
    case hQf6 => exact fun _ _ _ h => h
    case hyf6 =>
      refine Or.inl ⟨by rfl, ?_⟩
      intro wS hSw
      go_simp
      try with_reducible rfl
    try simp only [Act.put, List.setIfInBounds_toArray, List.set_cons_zero, List.set_cons_succ]
    refine wpAnyH_take (i := 7) (oi := ?oif7) (v := ?vf7) ?hif7 (by kernel_rfl) (by kernel_rfl) (by kernel_rfl) ?hQf7 ?hyf7 HS ?restf7
    case hif7 => simp only [List.getElem?_toArray, List.getElem?_cons_succ, List.getElem?_cons_zero]; exact rfl
    case hQf7 => exact fun _ _ _ h => h
    case hyf7 =>
      refine Or.inl ⟨by rfl, ?_⟩
      intro wS hSw
      go_simp
      try with_reducible rfl
    try simp only [Act.put, List.setIfInBounds_toArray, List.set_cons_zero, List.set_cons_succ]
    refine wpAnyH_take (i := 8) (oi := ?oif8) (v := ?vf8) ?hif8 (by kernel_rfl) (by kernel_rfl) (by kernel_rfl) ?hQf8 ?hyf8 HS ?restf8
    case hif8 => simp only [List.getElem?_toArray, List.getElem?_cons_succ, List.getElem?_cons_zero]; exact rfl
    case hQf8 => exact fun _ _ _ h => h
    case hyf8 =>
      refine Or.inl ⟨by rfl, ?_⟩
      intro wS hSw
      go_simp
      try with_reducible rfl
    try simp only [Act.put, List.setIfInBounds_toArray, List.set_cons_zero, List.set_cons_succ]
    refine wpAnyH_ready (rs := [9]) (by kernel_rfl) (by simp) ?_
    refine AllReadyH.cons (o := ?of9) ?hof9 (fun K hK => ?stepf9) AllReadyH.nil
    case hof9 => simp only [List.getElem?_toArray, List.getElem?_cons_succ, List.getElem?_cons_zero]; exact rfl
    rw [if_pos (by rfl)]
    go_simp
    refine (rsright_c A8 k c8 M w7 (by have := BRow.sl (World.ownsRow.below HRM.out HB7.out : BRow 90 w7 w5.heap.size A8 c8 M); rwa [HMK.out.2] at this) (by have h := World.ownsRow.below HRM.out HB7.out; rw [← HMK.out.2]; exact rs_nc h) (Nat.le_trans HN.out (by decide)) HMN.out).mono ?_
    rintro e w8 ⟨rfl, hb8⟩
    rw [HQR.out.1]
    have HB8 : Hid (Below wr.heap.size wr w8) := hid (HB7.out.trans (hb8.mono HB7.out.size))
    clear hb8
    refine hK.out _ _ HB8.out (fun HS => ?_)
    clear hK K
    try simp only [Act.put, List.setIfInBounds_toArray, List.set_cons_zero, List.set_cons_succ]
    refine wpAnyH_take (i := 10) (oi := ?oif10) (v := ?vf10) ?hif10 (by kernel_rfl) (by kernel_rfl) (by kernel_rfl) ?hQf10 ?hyf10 HS ?restf10
    case hif10 => simp only [List.getElem?_toArray, List.getElem?_cons_succ, List.getElem?_cons_zero]; exact rfl
    case hQf10 => exact fun _ _ _ h => h
    case hyf10 =>
      refine Or.inl ⟨by rfl, ?_⟩
      intro wS hSw
      go_simp
      try with_reducible rfl
    try simp only [Act.put, List.setIfInBounds_toArray, List.set_cons_zero, List.set_cons_succ]
    refine wpAnyH_take (i := 11) (oi := ?oif11) (v := ?vf11) ?hif11 (by kernel_rfl) (by kernel_rfl) (by kernel_rfl) ?hQf11 ?hyf11 HS ?restf11
    case hif11 => simp only [List.getElem?_toArray, List.getElem?_cons_succ, List.getElem?_cons_zero]; exact rfl
    case hQf11 => exact fun _ _ _ h => h
    case hyf11 =>
      refine Or.inl ⟨by rfl, ?_⟩
      intro wS hSw
      go_simp
      try with_reducible rfl
    try simp only [Act.put, List.setIfInBounds_toArray, List.set_cons_zero, List.set_cons_succ]
    refine wpAnyH_take (i := 12) (oi := ?oif12) (v := ?vf12) ?hif12 (by kernel_rfl) (by kernel_rfl) (by kernel_rfl) ?hQf12 ?hyf12 HS ?restf12
    case hif12 => simp only [List.getElem?_toArray, List.getElem?_cons_succ, List.getElem?_cons_zero]; exact rfl
    case hQf12 => exact fun _ _ _ h => h
    case hyf12 =>
      refine Or.inl ⟨by rfl, ?_⟩
      intro wS hSw
      go_simp
      try with_reducible rfl
    try simp only [Act.put, List.setIfInBounds_toArray, List.set_cons_zero, List.set_cons_succ]
    refine wpAnyH_take (i := 13) (oi := ?oif13) (v := ?vf13) ?hif13 (by kernel_rfl) (by kernel_rfl) (by kernel_rfl) ?hQf13 ?hyf13 HS ?restf13
    case hif13 => simp only [List.getElem?_toArray, List.getElem?_cons_succ, List.getElem?_cons_zero]; exact rfl
    case hQf13 => exact fun _ _ _ h => h
    case hyf13 =>
      refine Or.inl ⟨by rfl, ?_⟩
      intro wS hSw
      go_simp
      try with_reducible rfl
    try simp only [Act.put, List.setIfInBounds_toArray, List.set_cons_zero, List.set_cons_succ]
    refine wpAnyH_take (i := 14) (oi := ?oif14) (v := ?vf14) ?hif14 (by kernel_rfl) (by kernel_rfl) (by kernel_rfl) ?hQf14 ?hyf14 HS ?restf14
    case hif14 => simp only [List.getElem?_toArray, List.getElem?_cons_succ, List.getElem?_cons_zero]; exact rfl
    case hQf14 => exact fun _ _ _ h => h
    case hyf14 =>
      refine Or.inl ⟨by rfl, ?_⟩
      intro wS hSw
      go_simp
      try with_reducible rfl
    try simp only [Act.put, List.setIfInBounds_toArray, List.set_cons_zero, List.set_cons_succ]
    refine wpAnyH_take (i := 15) (oi := ?oif15) (v := ?vf15) ?hif15 (by kernel_rfl) (by kernel_rfl) (by kernel_rfl) ?hQf15 ?hyf15 HS ?restf15
    case hif15 => simp only [List.getElem?_toArray, List.getElem?_cons_succ, List.getElem?_cons_zero]; exact rfl
    case hQf15 => exact fun _ _ _ h => h
    case hyf15 =>
      refine Or.inl ⟨by rfl, ?_⟩
      intro wS hSw
      go_simp
      try with_reducible rfl
    try simp only [Act.put, List.setIfInBounds_toArray, List.set_cons_zero, List.set_cons_succ]
    refine wpAnyH_take (i := 16) (oi := ?oif16) (v := undef) ?hif16 (by kernel_rfl) (by kernel_rfl) (by kernel_rfl) ?hQf16 ?hyf16 HS ?restf16
    case hif16 => simp only [List.getElem?_toArray, List.getElem?_cons_succ, List.getElem?_cons_zero]; exact rfl
    case hQf16 => exact fun _ _ _ h => h
    case hyf16 =>
      refine Or.inr ⟨by rfl, rfl⟩
    try simp only [Act.put, List.setIfInBounds_toArray, List.set_cons_zero, List.set_cons_succ]
    refine wpAnyH_take (i := 17) (oi := ?oif17) (v := undef) ?hif17 (by kernel_rfl) (by kernel_rfl) (by kernel_rfl) ?hQf17 ?hyf17 HS ?restf17
    case hif17 => simp only [List.getElem?_toArray, List.getElem?_cons_succ, List.getElem?_cons_zero]; exact rfl
    case hQf17 => exact fun _ _ _ h => h
    case hyf17 =>
      refine Or.inr ⟨by rfl, rfl⟩
    try simp only [Act.put, List.setIfInBounds_toArray, List.set_cons_zero, List.set_cons_succ]
    refine wpAnyH_take (i := 18) (oi := ?oif18) (v := undef) ?hif18 (by kernel_rfl) (by kernel_rfl) (by kernel_rfl) ?hQf18 ?hyf18 HS ?restf18
    case hif18 => simp only [List.getElem?_toArray, List.getElem?_cons_succ, List.getElem?_cons_zero]; exact rfl
    case hQf18 => exact fun _ _ _ h => h
    case hyf18 =>
      refine Or.inr ⟨by rfl, rfl⟩
    try simp only [Act.put, List.setIfInBounds_toArray, List.set_cons_zero, List.set_cons_succ]
    refine wpAnyH_take (i := 19) (oi := ?oif19) (v := ?vf19) ?hif19 (by kernel_rfl) (by kernel_rfl) (by kernel_rfl) ?hQf19 ?hyf19 HS ?restf19
    case hif19 => simp only [List.getElem?_toArray, List.getElem?_cons_succ, List.getElem?_cons_zero]; exact rfl
    case hQf19 => exact fun _ _ _ h => h
    case hyf19 =>
      refine Or.inl ⟨by rfl, ?_⟩
      intro wS hSw
      go_simp
      try with_reducible rfl
    try simp only [Act.put, List.setIfInBounds_toArray, List.set_cons_zero, List.set_cons_succ]
    refine wpAnyH_take (i := 20) (oi := ?oif20) (v := ?vf20) ?hif20 (by kernel_rfl) (by kernel_rfl) (by kernel_rfl) ?hQf20 ?hyf20 HS ?restf20
    case hif20 => simp only [List.getElem?_toArray, List.getElem?_cons_succ, List.getElem?_cons_zero]; exact rfl
    case hQf20 => exact fun _ _ _ h => h
    case hyf20 =>
      refine Or.inl ⟨by rfl, ?_⟩
      intro wS hSw
      go_simp
      try with_reducible rfl
    try simp only [Act.put, List.setIfInBounds_toArray, List.set_cons_zero, List.set_cons_succ]
    refine wpAnyH_take (i := 21) (oi := ?oif21) (v := ?vf21) ?hif21 (by kernel_rfl) (by kernel_rfl) (by kernel_rfl) ?hQf21 ?hyf21 HS ?restf21
    case hif21 => simp only [List.getElem?_toArray, List.getElem?_cons_succ, List.getElem?_cons_zero]; exact rfl
    case hQf21 => exact fun _ _ _ h => h
    case hyf21 =>
      refine Or.inl ⟨by rfl, ?_⟩
      intro wS hSw
      go_simp
      try with_reducible rfl
    try simp only [Act.put, List.setIfInBounds_toArray, List.set_cons_zero, List.set_cons_succ]
    refine wpAnyH_done (by kernel_rfl) ?_ _
    have HF : Hid (Below w.heap.size w w8) := hid (HB6.out.trans (HB8.out.mono HB6.out.size))
    go_wp2
    go_ret
    exact ⟨rfl, HF.out⟩
end Go.Proofs.YtdkbpjkoiegflaaGreat
