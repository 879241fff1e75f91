/- The walk of SpaceCopies: for every input the law answers true. -/
import Derived.Test.YtfkaobpfdpfahaaSpPlay
import Derived.Test.YtfkaobpfdpfahaaFrameS
namespace Go.Proofs.Ytfkaobpfdpfahaa
open Go.RowKit

theorem OpsP.up {w wr : World} {A : Option Addr} {n : Nat} {o : Nat → Int × Int} (h : OpsP w w.heap.size A n o) (hb : Below w.heap.size w wr) : OpsP wr wr.heap.size A n o := fun j hj => by
  obtain ⟨b, off, hA, hlt, hr⟩ := h j hj
  exact ⟨b, off, hA, Nat.lt_of_lt_of_le hlt hb.size, rangeAt_keep hr (hb.block b hlt)⟩
theorem OpsP.ne {w : World} {hi k : Nat} {A : Option Addr} {n : Nat} {o : Nat → Int × Int} (h : OpsP w hi A n o) (hk : hi ≤ k) : 0 < n → ∀ b, A.map (·.block) = some b → b ≠ k := fun hn b hb => by
  obtain ⟨b', off, rfl, hlt, _⟩ := h 0 hn
  simp at hb
  omega
theorem MOn.other {w wr wr' : World} {g k g' k' : Nat} {s s' : Sp} (h : MOn w wr g k s) (hL : MLeft wr wr' g' k' s') (h0 : w.heap.size ≤ k') (h1 : g ≠ k') (h2 : k ≠ k') : MOn w wr' g k s :=
  ⟨h.mp.kp hL.2 h1 h2, h.bel.trans (hL.2.below (B := w.heap.size) (fun j hj => by omega) h.bel.size), h.g0, h.k0⟩

set_option maxRecDepth 20000 in
set_option maxHeartbeats 16000000 in
theorem copies_core (bl rs : Int) (Aa : Option Addr) (na ca : Nat) (oa : Nat → Int × Int) (Ab : Option Addr) (nb cb : Nat) (ob : Nat → Int × Int) (w : World) (ha : OpsP w w.heap.size Aa na oa) (hna : na ≤ 9223372036854775807) (hb : OpsP w w.heap.size Ab nb ob) (hnb : nb ≤ 9223372036854775807) :
    Calls Try.prog 4 #[.agg #[.int .i64 bl, .int .i64 rs], .slice Aa na ca, .slice Ab nb cb] w fun e w' => e = .returned (.bool true) ∧ Below w.heap.size w w' := by
  have HA := hid ha
  have HB := hid hb
  have HNA := hid hna
  have HNB := hid hnb
  have B0 : Hid (Below w.heap.size w (w.alloc (.cells #[.int .i64 bl, .int .i64 rs] 41))) := hid ((Below.refl _ _).alloc (Nat.le_refl _) _)
  have V0 : Hid (Blk (w.alloc (.cells #[.int .i64 bl, .int .i64 rs] 41)) w.heap.size 41 #[.int .i64 bl, .int .i64 rs]) := hid (Blk.new _ _ _)
  clear ha hb hna hnb
  go_enter Try.func4, Try.ntmps4
  go_wp2_with fail
  generalize w.alloc (.cells #[.int .i64 bl, .int .i64 rs] 41) = w0 at *
  generalize hv : w.heap.size = v at *
  have HVE := hid hv
  clear hv
  rw [← HVE.out] at HA HB
  refine (first_c w0).mono ?_
  rintro e w1 ⟨rfl, hb1⟩
  have V1 := hid (V0.out.keep (hb1.block v V0.out.lt))
  have B1 : Hid (Below w.heap.size w w1) := hid (by have := B0.out; rw [← HVE.out] at this; exact this.trans (hb1.mono this.size))
  clear hb1 V0 B0
  have v0 : w1.cell? ⟨v, 0, none⟩ = some (.int .i64 bl) := by have := V1.out.cell 0; simpa using this
  have v1 : w1.cell? ⟨v, 1, none⟩ = some (.int .i64 rs) := by have := V1.out.cell 1; simpa using this
  go_wp2_with fail
  refine wp_region_held_drew (S := fun wx => wx.cell? ⟨v, 0, none⟩ = some (.int .i64 bl) ∧ wx.cell? ⟨v, 1, none⟩ = some (.int .i64 rs)) (by kernel_rfl) ⟨by simpa using v0, by simpa using v1⟩ (fun HS => ?_)
  refine wpAnyH_take (i := 0) (oi := ?oi0) (v := ?v0) ?hi0 (by kernel_rfl) (by kernel_rfl) (by kernel_rfl) ?hQ0 ?hy0 HS ?rest0
  case hi0 => simp only [List.getElem?_toArray, List.getElem?_cons_zero]; exact rfl
  case hQ0 => exact fun _ _ _ h => h
  case hy0 =>
    refine Or.inl ⟨by rfl, ?_⟩
    intro wS hSw
    go_simp
    try with_reducible rfl
  try simp only [Act.put, List.setIfInBounds_toArray, List.set_cons_zero, List.set_cons_succ]
  refine wpAnyH_take (i := 1) (oi := ?oi1) (v := ?v1) ?hi1 (by kernel_rfl) (by kernel_rfl) (by kernel_rfl) ?hQ1 ?hy1 HS ?rest1
  case hi1 => simp only [List.getElem?_toArray, List.getElem?_cons_succ, List.getElem?_cons_zero]; exact rfl
  case hQ1 => exact fun _ _ _ h => h
  case hy1 =>
    refine Or.inl ⟨by rfl, ?_⟩
    intro wS hSw
    obtain ⟨z0, z1⟩ := hSw
    go_simp
    try with_reducible rfl
  try simp only [Act.put, List.setIfInBounds_toArray, List.set_cons_zero, List.set_cons_succ]
  refine wpAnyH_take (i := 2) (oi := ?oi2) (v := ?v2) ?hi2 (by kernel_rfl) (by kernel_rfl) (by kernel_rfl) ?hQ2 ?hy2 HS ?rest2
  case hi2 => simp only [List.getElem?_toArray, List.getElem?_cons_succ, List.getElem?_cons_zero]; exact rfl
  case hQ2 => exact fun _ _ _ h => h
  case hy2 =>
    refine Or.inl ⟨by rfl, ?_⟩
    intro wS hSw
    go_simp
    try with_reducible rfl
  try simp only [Act.put, List.setIfInBounds_toArray, List.set_cons_zero, List.set_cons_succ]
  refine wpAnyH_take (i := 3) (oi := ?oi3) (v := ?v3) ?hi3 (by kernel_rfl) (by kernel_rfl) (by kernel_rfl) ?hQ3 ?hy3 HS ?rest3
  case hi3 => simp only [List.getElem?_toArray, List.getElem?_cons_succ, List.getElem?_cons_zero]; exact rfl
  case hQ3 => exact fun _ _ _ h => h
  case hy3 =>
    refine Or.inl ⟨by rfl, ?_⟩
    intro wS hSw
    obtain ⟨z0, z1⟩ := hSw
    go_simp
    try with_reducible rfl
  try simp only [Act.put, List.setIfInBounds_toArray, List.set_cons_zero, List.set_cons_succ]
  refine wpAnyH_take (i := 4) (oi := ?oi4) (v := ?v4) ?hi4 (by kernel_rfl) (by kernel_rfl) (by kernel_rfl) ?hQ4 ?hy4 HS ?rest4
  case hi4 => simp only [List.getElem?_toArray, List.getElem?_cons_succ, List.getElem?_cons_zero]; exact rfl
  case hQ4 => exact fun _ _ _ h => h
  case hy4 =>
    refine Or.inl ⟨by rfl, ?_⟩
    intro wS hSw
    go_simp
    try with_reducible rfl
  try simp only [Act.put, List.setIfInBounds_toArray, List.set_cons_zero, List.set_cons_succ]
  refine wpAnyH_take (i := 5) (oi := ?oi5) (v := ?v5) ?hi5 (by kernel_rfl) (by kernel_rfl) (by kernel_rfl) ?hQ5 ?hy5 HS ?rest5
  case hi5 => simp only [List.getElem?_toArray, List.getElem?_cons_succ, List.getElem?_cons_zero]; exact rfl
  case hQ5 => exact fun _ _ _ h => h
  case hy5 =>
    refine Or.inl ⟨by rfl, ?_⟩
    intro wS hSw
    go_simp
    try with_reducible rfl
  try simp only [Act.put, List.setIfInBounds_toArray, List.set_cons_zero, List.set_cons_succ]
  refine wpAnyH_done (by kernel_rfl) ?_ _
  have B2 : Hid (Below w.heap.size w w1.drew) := hid B1.out.drew
  clear V1 B1 v0 v1 HS
  generalize w1.drew = w2 at *
  by_cases hok : (1 ≤ bl ∧ bl ≤ 4096) ∧ 0 ≤ rs ∧ rs ≤ bl
  · obtain ⟨⟨h1, h2⟩, h3, h4⟩ := hok
    have HNR : Hid (bl = (bl.toNat : Int) ∧ rs = (rs.toNat : Int) ∧ 1 ≤ bl.toNat ∧ bl.toNat ≤ 4096 ∧ rs.toNat ≤ bl.toNat) := hid ⟨by omega, by omega, by omega, by omega, by omega⟩
    have e1 : decide (1 ≤ bl) = true := by simpa using h1
    have e2 : decide (bl ≤ 4096) = true := by simpa using h2
    have e3 : decide (0 ≤ rs) = true := by simpa using h3
    have e4 : decide (rs ≤ bl) = true := by simpa using h4
    have ws : wrap64 (bl - rs) = ((bl.toNat - rs.toNat : Nat) : Int) := by unfold wrap64; omega
    clear h1 h2 h3 h4
    generalize bl.toNat = N at *
    generalize rs.toNat = r at *
    as_aux_lemma =>
    go_wp2_with fail
    refine (snew_c bl rs N r HNR.out.1 HNR.out.2.1 w2 HNR.out.2.2.1 HNR.out.2.2.2.1 HNR.out.2.2.2.2).mono ?_
    rintro e w3 ⟨gb, kb, rfl, hm, hb, hg, hk⟩
    have hc := free_c w3 gb kb _ hm
    rw [Sp.new_free] at hc
    have BC : Hid (Below w.heap.size w w3) := hid (B2.out.trans (hb.mono B2.out.size))
    clear hm hb hg hk B2
    generalize N - r = D at *
    have hdd : ((D : Int) != (D : Int)) = false := by simp
    go_wp2_with fail
    refine hc.mono ?_
    rintro e wc ⟨rfl, rfl⟩
    clear hc
    go_wp2_with fail
    generalize w3 = wc at *
    clear ws hdd e1 e2 e3 e4 HNR
    refine (snew_c 20 2 20 2 rfl rfl wc (by decide) (by decide) (by decide)).mono ?_
    rintro e w6 ⟨g, k, rfl, hm, hb, hg, hk⟩
    have H6 : Hid (MOn w w6 g k (Sp.new 20 2)) := hid (MOn.new BC.out hm hb hg hk)
    clear hm hb hg hk BC
    generalize Sp.new 20 2 = s0 at *
    have hc := play_c w6 g k s0 H6.out.mp Aa na ca oa (HA.out.up H6.out.bel) (HA.out.ne H6.out.k0) HNA.out
    go_wp2_with fail
    refine hc.mono ?_
    rintro e w7 ⟨rfl, hL⟩
    have H7 := hid (H6.out.left hL)
    clear hL hc H6
    generalize s0.acts oa (min na 60) = s1 at *
    have hc := copy_c w7 g k s1 H7.out.mp
    go_wp2_with fail
    refine hc.mono ?_
    rintro e w8 ⟨g', k', rfl, hm, hb, hg, hk⟩
    have H8 : Hid (MOn w w8 g k s1) := hid (H7.out.go hb)
    have C8 : Hid (MOn w w8 g' k' s1) := hid (MOn.new H7.out.bel hm hb hg hk)
    have HNE : Hid (g ≠ k' ∧ k ≠ k' ∧ g' ≠ k) := hid ⟨by have := H7.out.mp.blk.lt; omega, by have := H7.out.mp.row.lt; omega, by have := H7.out.mp.row.lt; omega⟩
    clear hm hb hg hk hc H7
    have hc := free_c w8 g k s1 H8.out.mp
    go_wp2_with fail
    refine hc.mono ?_
    rintro e w' ⟨rfl, rfl⟩
    clear hc
    have hc := play_c w8 g' k' s1 C8.out.mp Ab nb cb ob (HB.out.up H8.out.bel) (HB.out.ne C8.out.k0) HNB.out
    go_wp2_with fail
    refine hc.mono ?_
    rintro e w9 ⟨rfl, hL⟩
    have C9 := hid (C8.out.left hL)
    have H9 : Hid (MOn w w9 g k s1) := hid (H8.out.other hL C8.out.k0 HNE.out.1 HNE.out.2.1)
    clear hL hc H8 C8
    have hc := free_c w9 g k s1 H9.out.mp
    go_wp2_with fail
    refine hc.mono ?_
    rintro e w' ⟨rfl, rfl⟩
    clear hc
    have hff : ((s1.free : Int) != (s1.free : Int)) = false := by simp
    have hc := play_c w9 g k s1 H9.out.mp Ab nb cb ob (HB.out.up H9.out.bel) (HB.out.ne H9.out.k0) HNB.out
    go_wp2_with fail
    refine hc.mono ?_
    rintro e w10 ⟨rfl, hL⟩
    have HX := hid (H9.out.left hL)
    have CX : Hid (MOn w w10 g' k' (s1.acts ob (min nb 60))) := hid (C9.out.other hL H9.out.k0 HNE.out.2.2 (Ne.symm HNE.out.2.1))
    clear hL hc H9 C9 hff
    generalize s1.acts ob (min nb 60) = s2 at *
    go_wp2_with fail
    go_loopg [94] 20 (fun q iv wr => ∃ i : Nat, iv = .int .i64 (i : Int) ∧ Hid (q = 20 - i) ∧ Hid (i ≤ 20) ∧ Hid (MOn w wr g k s2) ∧ Hid (MOn w wr g' k' s2))
    case atStart => exact ⟨0, rfl, hid (by omega), hid (Nat.zero_le _), HX, CX⟩
    case round =>
      obtain ⟨i, rfl, hgi, hi, hM, hC⟩ := hrel
      clear HX CX
      rcases Nat.lt_or_ge i 20 with hil | hig
      · have i3 : decide ((i : Int) < 20) = true := by simp; omega
        have HIL := hid hil
        have wi : wrap64 ((i : Int) + 1) = ((i + 1 : Nat) : Int) := by unfold wrap64; omega
        have hc := taken_c wr g k s2 hM.out.mp i
        have hc2 := taken_c wr g' k' s2 hC.out.mp i
        generalize s2.tk (i : Int) = bb at *
        have hbb : (bb != bb) = false := by simp
        clear hil
        as_aux_lemma =>
        go_wp2_with fail
        refine hc.mono ?_
        rintro e w' ⟨rfl, rfl⟩
        go_wp2_with fail
        refine hc2.mono ?_
        rintro e w' ⟨rfl, rfl⟩
        clear hc hc2
        go_wp2
        go_roundg (20 - (i + 1))
        case measure => have := hgi.out; have := HIL.out; omega
        case rel => exact ⟨i + 1, congrArg (Value.int .i64) (by first | exact wi | omega | rfl), hid rfl, hid (by have := HIL.out; omega), hM, hC⟩
      · have i3 : decide ((i : Int) < 20) = false := by simp; omega
        clear hig
        as_aux_lemma =>
        go_wp2_with fail
        refine (take_nil _).mono ?_
        rintro e w' ⟨rfl, rfl⟩
        go_wp2_with fail
        refine (mark_nil _ _).mono ?_
        rintro e w' ⟨rfl, rfl⟩
        go_wp2_with fail
        refine (give_nil _ _).mono ?_
        rintro e w' ⟨rfl, rfl⟩
        go_wp2_with fail
        refine (taken_nil _ _).mono ?_
        rintro e w' ⟨rfl, rfl⟩
        go_wp2_with fail
        refine (free_nil _).mono ?_
        rintro e w' ⟨rfl, rfl⟩
        go_wp2_with fail
        refine (copy_nil _).mono ?_
        rintro e w' ⟨rfl, rfl⟩
        go_wp2
        go_ret
        exact ⟨rfl, hM.out.bel⟩
  · have hc : (decide (1 ≤ bl) = false) ∨ (decide (1 ≤ bl) = true ∧ decide (bl ≤ 4096) = false) ∨ (decide (1 ≤ bl) = true ∧ decide (bl ≤ 4096) = true ∧ decide (0 ≤ rs) = false) ∨ (decide (1 ≤ bl) = true ∧ decide (bl ≤ 4096) = true ∧ decide (0 ≤ rs) = true ∧ decide (rs ≤ bl) = false) := by
      simp only [decide_eq_true_eq, decide_eq_false_iff_not]
      omega
    have HW : Hid (bl < 1 ∨ 4096 < bl ∨ rs < 0 ∨ bl < rs) := hid (by omega)
    clear hok
    rcases hc with e1 | ⟨e1, e2⟩ | ⟨e1, e2, e3⟩ | ⟨e1, e2, e3, e4⟩
    all_goals
      as_aux_lemma =>
      go_wp2_with fail
      refine (new_wrong bl rs w2 HW.out).mono ?_
      rintro e wc ⟨rfl, rfl⟩
      have BC : Hid (Below w.heap.size w w2) := B2
      go_wp2_with fail
      generalize w2 = wc at *
      clear B2 HW e1
      refine (snew_c 20 2 20 2 rfl rfl wc (by decide) (by decide) (by decide)).mono ?_
      rintro e w6 ⟨g, k, rfl, hm, hb, hg, hk⟩
      have H6 : Hid (MOn w w6 g k (Sp.new 20 2)) := hid (MOn.new BC.out hm hb hg hk)
      clear hm hb hg hk BC
      generalize Sp.new 20 2 = s0 at *
      have hc := play_c w6 g k s0 H6.out.mp Aa na ca oa (HA.out.up H6.out.bel) (HA.out.ne H6.out.k0) HNA.out
      go_wp2_with fail
      refine hc.mono ?_
      rintro e w7 ⟨rfl, hL⟩
      have H7 := hid (H6.out.left hL)
      clear hL hc H6
      generalize s0.acts oa (min na 60) = s1 at *
      have hc := copy_c w7 g k s1 H7.out.mp
      go_wp2_with fail
      refine hc.mono ?_
      rintro e w8 ⟨g', k', rfl, hm, hb, hg, hk⟩
      have H8 : Hid (MOn w w8 g k s1) := hid (H7.out.go hb)
      have C8 : Hid (MOn w w8 g' k' s1) := hid (MOn.new H7.out.bel hm hb hg hk)
      have HNE : Hid (g ≠ k' ∧ k ≠ k' ∧ g' ≠ k) := hid ⟨by have := H7.out.mp.blk.lt; omega, by have := H7.out.mp.row.lt; omega, by have := H7.out.mp.row.lt; omega⟩
      clear hm hb hg hk hc H7
      have hc := free_c w8 g k s1 H8.out.mp
      go_wp2_with fail
      refine hc.mono ?_
      rintro e w' ⟨rfl, rfl⟩
      clear hc
      have hc := play_c w8 g' k' s1 C8.out.mp Ab nb cb ob (HB.out.up H8.out.bel) (HB.out.ne C8.out.k0) HNB.out
      go_wp2_with fail
      refine hc.mono ?_
      rintro e w9 ⟨rfl, hL⟩
      have C9 := hid (C8.out.left hL)
      have H9 : Hid (MOn w w9 g k s1) := hid (H8.out.other hL C8.out.k0 HNE.out.1 HNE.out.2.1)
      clear hL hc H8 C8
      have hc := free_c w9 g k s1 H9.out.mp
      go_wp2_with fail
      refine hc.mono ?_
      rintro e w' ⟨rfl, rfl⟩
      clear hc
      have hff : ((s1.free : Int) != (s1.free : Int)) = false := by simp
      have hc := play_c w9 g k s1 H9.out.mp Ab nb cb ob (HB.out.up H9.out.bel) (HB.out.ne H9.out.k0) HNB.out
      go_wp2_with fail
      refine hc.mono ?_
      rintro e w10 ⟨rfl, hL⟩
      have HX := hid (H9.out.left hL)
      have CX : Hid (MOn w w10 g' k' (s1.acts ob (min nb 60))) := hid (C9.out.other hL H9.out.k0 HNE.out.2.2 (Ne.symm HNE.out.2.1))
      clear hL hc H9 C9 hff
      generalize s1.acts ob (min nb 60) = s2 at *
      go_wp2_with fail
      go_loopg [94] 20 (fun q iv wr => ∃ i : Nat, iv = .int .i64 (i : Int) ∧ Hid (q = 20 - i) ∧ Hid (i ≤ 20) ∧ Hid (MOn w wr g k s2) ∧ Hid (MOn w wr g' k' s2))
      case atStart => exact ⟨0, rfl, hid (by omega), hid (Nat.zero_le _), HX, CX⟩
      case round =>
        obtain ⟨i, rfl, hgi, hi, hM, hC⟩ := hrel
        clear HX CX
        rcases Nat.lt_or_ge i 20 with hil | hig
        · have i3 : decide ((i : Int) < 20) = true := by simp; omega
          have HIL := hid hil
          have wi : wrap64 ((i : Int) + 1) = ((i + 1 : Nat) : Int) := by unfold wrap64; omega
          have hc := taken_c wr g k s2 hM.out.mp i
          have hc2 := taken_c wr g' k' s2 hC.out.mp i
          generalize s2.tk (i : Int) = bb at *
          have hbb : (bb != bb) = false := by simp
          clear hil
          as_aux_lemma =>
          go_wp2_with fail
          refine hc.mono ?_
          rintro e w' ⟨rfl, rfl⟩
          go_wp2_with fail
          refine hc2.mono ?_
          rintro e w' ⟨rfl, rfl⟩
          clear hc hc2
          go_wp2
          go_roundg (20 - (i + 1))
          case measure => have := hgi.out; have := HIL.out; omega
          case rel => exact ⟨i + 1, congrArg (Value.int .i64) (by first | exact wi | omega | rfl), hid rfl, hid (by have := HIL.out; omega), hM, hC⟩
        · have i3 : decide ((i : Int) < 20) = false := by simp; omega
          clear hig
          as_aux_lemma =>
          go_wp2_with fail
          refine (take_nil _).mono ?_
          rintro e w' ⟨rfl, rfl⟩
          go_wp2_with fail
          refine (mark_nil _ _).mono ?_
          rintro e w' ⟨rfl, rfl⟩
          go_wp2_with fail
          refine (give_nil _ _).mono ?_
          rintro e w' ⟨rfl, rfl⟩
          go_wp2_with fail
          refine (taken_nil _ _).mono ?_
          rintro e w' ⟨rfl, rfl⟩
          go_wp2_with fail
          refine (free_nil _).mono ?_
          rintro e w' ⟨rfl, rfl⟩
          go_wp2_with fail
          refine (copy_nil _).mono ?_
          rintro e w' ⟨rfl, rfl⟩
          go_wp2
          go_ret
          exact ⟨rfl, hM.out.bel⟩

theorem walkSpaceCopies (z0 z1 : Int) (a1 : Option Addr) (n1 c1 : Nat) (o1 : Nat → Int × Int) (a2 : Option Addr) (n2 c2 : Nat) (o2 : Nat → Int × Int) (w : World) (_ : (Lit.int IntKind.i64 z0).wf = true) (_ : (Lit.int IntKind.i64 z1).wf = true) (h1 : OpsP w w.heap.size a1 n1 o1 ∧ n1 ≤ 9223372036854775807) (h2 : OpsP w w.heap.size a2 n2 o2 ∧ n2 ≤ 9223372036854775807) :
    Calls Try.prog 4 #[.agg #[.int .i64 z0, .int .i64 z1], .slice a1 n1 c1, .slice a2 n2 c2] w fun e w' => e = .returned (.bool true) ∧ Below w.heap.size w w' := copies_core z0 z1 a1 n1 c1 o1 a2 n2 c2 o2 w h1.1 h1.2 h2.1 h2.2
end Go.Proofs.Ytfkaobpfdpfahaa
