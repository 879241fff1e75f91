/- The walk of DeviceKeeps: for every input the law answers true. -/
import Derived.Test.YtdgcoipflenlgaaDvOver
import Derived.Test.YtdgcoipflenlgaaDvPair
namespace Go.Proofs.Ytdgcoipflenlgaa
open Go.RowKit

theorem Lst.lt {w : World} {lo hi n : Nat} {A : Option Addr} {xs : List Value} (h : Lst w lo hi A n xs) (hn : 0 < n) (u : Nat) (hu : A.map (·.block) = some u) : u < hi := by
  obtain ⟨b, off, rfl, _, h2, _⟩ := h.2 hn
  simp at hu
  omega
theorem kmod0 (i : Int) (m : Nat) (hm : 0 < m) : ∃ k : Nat, k < m ∧ (IntKind.u64.wrap i).tmod (m : Int) = (k : Int) := by
  have h0 : 0 ≤ IntKind.u64.wrap i := by rw [IntKind.wrap_u64]; omega
  have h1 : (IntKind.u64.wrap i).tmod (m : Int) = (IntKind.u64.wrap i) % (m : Int) := Int.tmod_eq_emod_of_nonneg h0
  have h2 : 0 ≤ (IntKind.u64.wrap i) % (m : Int) := Int.emod_nonneg _ (by omega)
  have h3 : (IntKind.u64.wrap i) % (m : Int) < (m : Int) := Int.emod_lt_of_pos _ (by omega)
  exact ⟨((IntKind.u64.wrap i) % (m : Int)).toNat, by omega, by rw [h1]; omega⟩

theorem keeps_long (bA : Option Addr) (bn bc : Nat) (v : Value) (KA : Option Addr) (kn kc : Nat) (w : World) (h : 16 < bn ∨ 200 < kn) :
    Calls Try.prog 5 #[.slice bA bn bc, v, .slice KA kn kc] w fun e w' => e = .returned (.bool true) ∧ Below w.heap.size w w' := by
  have ht : decide ((16 : Int) < (bn : Int)) = true ∨ (decide ((16 : Int) < (bn : Int)) = false ∧ decide ((200 : Int) < (kn : Int)) = true) := by
    rcases Nat.lt_or_ge 16 bn with h1 | h1
    · exact .inl (by simp; omega)
    · exact .inr ⟨by simp; omega, by simp; omega⟩
  clear h
  go_enter Try.func5, Try.ntmps5
  go_wp2_with fail
  refine (first_c w).mono ?_
  rintro e w1 ⟨rfl, hb1⟩
  have HB1 := hid hb1
  clear hb1
  rcases ht with e1 | ⟨e1, e2⟩
  all_goals
    go_wp2
    go_ret
    exact ⟨rfl, HB1.out⟩

/-- What holds of the device. -/
structure KeSt (s : St) (l : List UInt8) (j : Nat) : Prop where
  n8 : s.n = 8
  lim : s.lim = none
  K : s.K 7 = pad l
  W : ∀ x ∈ s.W, x.1 ≠ 7
  len : s.W.length ≤ j
  len2 : s.W.length ≤ 80
theorem KeSt.next {s : St} {l : List UInt8} {j : Nat} (h : KeSt s l j) : KeSt s l (j + 1) := ⟨h.n8, h.lim, h.K, h.W, by have := h.len; omega, h.len2⟩
theorem KeSt.put {s : St} {l : List UInt8} {j k : Nat} (h : KeSt s l j) (hj : j < 80) (hk : k < 7) (b : List UInt8) : KeSt (s.put k b).dec l (j + 1) := by
  have e : (s.put k b).dec.W.length = s.W.length + 1 := by show (s.W ++ [_]).length = _; simp
  exact ⟨h.n8, by show s.lim.map _ = none; rw [h.lim]; rfl, h.K, fun x hx => (by
    rcases List.mem_append.1 hx with hx | hx
    · exact h.W x hx
    · rw [List.mem_singleton] at hx; subst hx; exact fun e => by simp at e; omega), by rw [e]; have := h.len; omega, by rw [e]; have := h.len; omega⟩
theorem KeSt.sync {s : St} {l : List UInt8} {j : Nat} (h : KeSt s l j) : KeSt s.sync.dec l (j + 1) :=
  ⟨h.n8, by show s.lim.map _ = none; rw [h.lim]; rfl, (app_out _ _ _ h.W).trans h.K, fun x hx => (by cases hx), Nat.zero_le _, Nat.zero_le _⟩
theorem KeSt.over {s : St} {l : List UInt8} {j k : Nat} (h : KeSt s l j) (hk : k < 7) (b : List UInt8) : KeSt (s.over k b) l (j + 1) := by
  have e : (s.over k b).W.length ≤ s.W.length := List.length_filter_le _ _
  exact ⟨h.n8, h.lim, (upd_other _ _ (by omega)).trans h.K, fun x hx => h.W x (List.mem_filter.1 hx).1, by have := h.len; omega, by have := h.len2; omega⟩

set_option maxRecDepth 20000 in
set_option maxHeartbeats 8000000 in
theorem keeps_core (bA : Option Addr) (bn bc : Nat) (l : List UInt8) (A : Option Addr) (n c : Nat) (KA : Option Addr) (kn kc : Nat) (ks : List Bool) (w : World) (hb : Bts w 0 w.heap.size bA bn l) (hbn : bn ≤ 16) (hops : Ops w w.heap.size A n) (hn : n ≤ 9223372036854775807) (hk : Lst w 0 w.heap.size KA kn (ks.map .bool)) (hkn : kn ≤ 200) :
    Calls Try.prog 5 #[.slice bA bn bc, .slice A n c, .slice KA kn kc] w fun e w' => e = .returned (.bool true) ∧ Below w.heap.size w w' := by
  have e1 : decide ((16 : Int) < (bn : Int)) = false := by simp; omega
  have e2 : decide ((200 : Int) < (kn : Int)) = false := by simp; omega
  have HBN := hid hbn
  have HBT := hid hb
  have HOPS := hid hops
  have HN := hid hn
  have HKS := hid hk
  have HLL : Hid (l.length ≤ 16) := hid (by rw [hb.len]; exact hbn)
  clear hb hbn hops hn hk hkn
  go_enter Try.func5, Try.ntmps5
  go_wp2_with fail
  refine (first_c w).mono ?_
  rintro e w1 ⟨rfl, hb1⟩
  have HB1 := hid hb1
  clear hb1
  go_wp2_with fail
  refine (new_c 8 w1 (by decide) (by decide)).mono ?_
  rintro e w2 ⟨g, F2, rfl, hd2, hb2, hF2⟩
  have HB2 : Hid (Below w.heap.size w w2) := hid (HB1.out.trans (hb2.mono HB1.out.size))
  have HF2 : Hid (∀ j, F2 j → w.heap.size ≤ j) := hid (fun j hj => Nat.le_trans HB1.out.size (hF2 j hj))
  have HD2 := hid hd2
  clear hd2 hb2 hF2 HB1
  go_wp2_with fail
  refine (write_c w2 F2 g (St.new 8) HD2.out 7 (by decide) bA bn bc l ((HBT.out.below HB2.out (Nat.le_refl _)).wide (Nat.le_refl _) HB2.out.size) (fun h0 u hu e => by have := HBT.out.lt h0 u hu; have := HF2.out u e; omega) HBN.out (by decide) (by decide)).mono ?_
  rintro e w3 ⟨rfl, hL⟩
  obtain ⟨F3, hd3, hF3, hb3⟩ := hL.dev (hi := w.heap.size) HF2.out HB2.out.size
  have HB3 : Hid (Below w.heap.size w w3) := hid (HB2.out.trans hb3)
  have HD3 := hid hd3
  have HF3 := hid hF3
  clear hL hd3 hF3 hb3 HD2 HB2 HF2
  go_wp2_with fail
  refine (sync_c w3 F3 g _ HD3.out (fun e => by cases e) (show (1 : Nat) ≤ 1000000 by decide)).mono ?_
  rintro e w4 ⟨rfl, hL⟩
  obtain ⟨F4, hd4, hF4, hb4⟩ := hL.dev (hi := w.heap.size) HF3.out HB3.out.size
  have HB4 : Hid (Below w.heap.size w w4) := hid (HB3.out.trans hb4)
  have HD4 := hid hd4
  have HF4 := hid hF4
  have HK4 : Hid (KeSt ((St.new 8).put 7 l).dec.sync.dec l 0) := hid ⟨rfl, rfl, by show app ([] ++ [(7, pad l)]) zero 7 = _; rw [app_snoc, upd_same], fun x hx => (by cases hx), Nat.le_refl _, Nat.zero_le _⟩
  generalize ((St.new 8).put 7 l).dec.sync.dec = s4 at *
  clear hL hd4 hF4 hb4 HD3 HB3 HF3
  go_wp2_with fail
  go_loopw [39] (fun iv wr => ∃ (j : Nat) (F : Nat → Prop) (s : St), iv = .int .i64 (j : Int) ∧ Hid (j ≤ n) ∧ Hid (KeSt s l j) ∧ Hid (Dev wr F g s) ∧ Hid (∀ k, F k → w.heap.size ≤ k) ∧ Hid (Below w.heap.size w wr)) (fun iv _ => n - (intOf iv).toNat)
  case atStart => exact ⟨0, F4, s4, rfl, hid (Nat.zero_le _), HK4, HD4, HF4, HB4⟩
  case round =>
    obtain ⟨j, F, s, rfl, hj, hK, hD, hF, hB⟩ := hrel
    clear HD4 HF4 HB4 HK4
    rcases Nat.lt_or_ge j n with hlt | hge
    · have HLT := hid hlt
      obtain ⟨b, off, o, rfl, hbl, hR0, hO0⟩ := HOPS.out j hlt
      have HO := hid (hO0.below hB.out)
      have hR := rangeAt_keep hR0 (hB.out.block b hbl)
      have HR := hid hR
      obtain ⟨d, hd1, hd2⟩ := Try.undO
      have HD := hid (And.intro hd1 hd2)
      have HIN : Hid ((Try.prog.info? 34).map (·.size) = some o.cells.length) := hid Try.infoO
      have HT : Hid ((wr.alloc (.cells #[.int .i64 0, .int .i64 0, .slice none 0 0, .slice none 0 0] 34)).there wr.heap.size 0 o.cells.toArray.size) := hid (z4 wr)
      have HC := hid (ocells o)
      have HV : Hid (VarO wr ((wr.alloc (.cells #[.int .i64 0, .int .i64 0, .slice none 0 0, .slice none 0 0] 34)).setCells wr.heap.size 0 o.cells) o) := hid (VarO.of wr o)
      have j1 : (0 : Int) ≤ (j : Int) := by omega
      have j2 : (j : Int) < (n : Int) := by omega
      have j3 : decide ((j : Int) < (n : Int)) = true := by simpa using hlt
      have j4 : decide (j < n) = true := by simpa using hlt
      have wj : wrap64 ((j : Int) + 1) = ((j + 1 : Nat) : Int) := by have := HN.out; unfold wrap64; omega
      clear hR hR0 hO0 hd1 hd2 hbl
      generalize o.cells = E at *
      as_aux_lemma =>
      go_upto_region 11 with (first | (refine wpList_load_mid rfl 34 _ rfl b (off + j * 4) rfl E d HR.out HD.out.1 HD.out.2 HIN.out ?_) | (refine wpList_store_mid rfl 34 _ _ rfl _ _ E.toArray rfl rfl HT.out HIN.out HC.out ?_))
      simp only [Act.put]
      generalize (wr.alloc (.cells #[.int .i64 0, .int .i64 0, .slice none 0 0, .slice none 0 0] 34)).setCells wr.heap.size 0 E = w2 at *
      obtain ⟨x0, x1, x2, -⟩ := HV.out.keep rfl
      have HD2 := hid (hD.out.bel HV.out.bel)
      have HB2 : Hid (Below w.heap.size w w2) := hid (hB.out.trans (HV.out.bel.mono hB.out.size))
      have HBO : Hid (Bts w2 0 w2.heap.size o.BA o.Bn o.l) := hid ((HO.out.b.below (HV.out.bel.mono hB.out.size) (Nat.le_refl _)).wide (Nat.le_refl _) HB2.out.size)
      have HNB : Hid (0 < o.Bn → ∀ u, o.BA.map (·.block) = some u → ¬ F u) := hid (fun h0 u hu e => by have := HO.out.b.lt h0 u hu; have := hF.out u e; omega)
      clear HR HT HC HIN HD HV hD hB
      by_cases h80 : 80 ≤ j
      · have k1 : decide ((80 : Int) ≤ (j : Int)) = true := by simp; omega
        have HK6 := hid hK.out.next
        clear HBO HNB x0 x1 x2
        go_wp2
        exact ⟨⟨j + 1, F, s, congrArg (Value.int .i64) (by first | exact wj | omega), hid HLT.out, HK6, HD2, hF, HB2⟩, by (try rw [wj]); have := HLT.out; simp [intOf]; omega⟩
      · have k1 : decide ((80 : Int) ≤ (j : Int)) = false := by simp; omega
        by_cases h16 : 16 < o.Bn
        · have k2 : decide ((16 : Int) < (o.Bn : Int)) = true := by simp; omega
          have HK6 := hid hK.out.next
          clear HBO HNB x0 x1
          go_wp2
          exact ⟨⟨j + 1, F, s, congrArg (Value.int .i64) (by first | exact wj | omega), hid HLT.out, HK6, HD2, hF, HB2⟩, by (try rw [wj]); have := HLT.out; simp [intOf]; omega⟩
        · have k2 : decide ((16 : Int) < (o.Bn : Int)) = false := by simp; omega
          have H16 : Hid (o.Bn ≤ 16) := hid (by omega)
          have H80 : Hid (j < 80) := hid (by omega)
          obtain ⟨ki, hki, hkw⟩ := kmod o.i 7 (by decide) (by decide)
          rw [show ((7 : Nat) : Int) = 7 from rfl] at hkw
          obtain ⟨kd, hkd, hkdw⟩ := kmod0 o.kind 7 (by decide)
          rw [show ((7 : Nat) : Int) = 7 from rfl] at hkdw
          have hcases : kd = 0 ∨ kd = 2 ∨ kd = 6 ∨ kd = 1 ∨ kd = 3 ∨ kd = 4 ∨ kd = 5 := by omega
          clear h80 h16 hkd
          rcases hcases with rfl | rfl | rfl | rfl | rfl | rfl | rfl
          · as_aux_lemma =>
            go_wp2_with fail
            refine (write_c w2 F g s HD2.out ki (by rw [hK.out.n8]; omega) o.BA o.Bn o.Bc o.l HBO.out HNB.out H16.out (by rw [hK.out.lim]; simp) (by have := hK.out.len2; omega)).mono ?_
            rintro e w6 ⟨rfl, hL⟩
            obtain ⟨F6, hd6, hF6, hb6⟩ := hL.dev (hi := w.heap.size) hF.out HB2.out.size
            have HB6 : Hid (Below w.heap.size w w6) := hid (HB2.out.trans hb6)
            have HK6 := hid (hK.out.put H80.out hki o.l)
            have HD6 := hid hd6
            have HF6 := hid hF6
            generalize (s.put ki o.l).dec = s6 at *
            clear hL hd6 hF6 hb6 HD2 hF HB2 hK HBO HNB
            go_wp2
            exact ⟨⟨j + 1, F6, s6, congrArg (Value.int .i64) (by first | exact wj | omega), hid HLT.out, HK6, HD6, HF6, HB6⟩, by (try rw [wj]); have := HLT.out; simp [intOf]; omega⟩
          · as_aux_lemma =>
            go_wp2_with fail
            refine (sync_c w2 F g s HD2.out (by rw [hK.out.lim]; simp) (by have := hK.out.len2; omega)).mono ?_
            rintro e w6 ⟨rfl, hL⟩
            obtain ⟨F6, hd6, hF6, hb6⟩ := hL.dev (hi := w.heap.size) hF.out HB2.out.size
            have HB6 : Hid (Below w.heap.size w w6) := hid (HB2.out.trans hb6)
            have HK6 := hid hK.out.sync
            have HD6 := hid hd6
            have HF6 := hid hF6
            generalize s.sync.dec = s6 at *
            clear hL hd6 hF6 hb6 HD2 hF HB2 hK HBO HNB
            go_wp2
            exact ⟨⟨j + 1, F6, s6, congrArg (Value.int .i64) (by first | exact wj | omega), hid HLT.out, HK6, HD6, HF6, HB6⟩, by (try rw [wj]); have := HLT.out; simp [intOf]; omega⟩
          · as_aux_lemma =>
            go_wp2_with fail
            refine (over_c w2 F g s HD2.out ki (by rw [hK.out.n8]; omega) o.BA o.Bn o.Bc o.l HBO.out H16.out (by have := hK.out.len2; omega)).mono ?_
            rintro e w6 ⟨rfl, hL⟩
            obtain ⟨F6, hd6, hF6, hb6⟩ := hL.dev (hi := w.heap.size) hF.out HB2.out.size
            have HB6 : Hid (Below w.heap.size w w6) := hid (HB2.out.trans hb6)
            have HK6 := hid (hK.out.over hki o.l)
            have HD6 := hid hd6
            have HF6 := hid hF6
            generalize s.over ki o.l = s6 at *
            clear hL hd6 hF6 hb6 HD2 hF HB2 hK HBO HNB
            go_wp2
            exact ⟨⟨j + 1, F6, s6, congrArg (Value.int .i64) (by first | exact wj | omega), hid HLT.out, HK6, HD6, HF6, HB6⟩, by (try rw [wj]); have := HLT.out; simp [intOf]; omega⟩
          all_goals
            as_aux_lemma =>
            have HK6 := hid hK.out.next
            clear HBO HNB hK
            go_wp2
            exact ⟨⟨j + 1, F, s, congrArg (Value.int .i64) (by first | exact wj | omega), hid HLT.out, HK6, HD2, hF, HB2⟩, by (try rw [wj]); have := HLT.out; simp [intOf]; omega⟩
    · have j3 : decide ((j : Int) < (n : Int)) = false := by simp; omega
      have j4 : decide (j < n) = false := by simp; omega
      have HLen : Hid (s.W.length ≤ 1000000) := hid (by have := hK.out.len2; omega)
      have HKW := hid (((HKS.out.below hB.out (Nat.le_refl _)).wide (Nat.le_refl _) hB.out.size))
      have H8 : Hid ((s.crash ks).n = 8) := hid hK.out.n8
      have HK7 : Hid (app (s.crash ks).W (s.crash ks).K 7 = pad l) := hid (by
        show app (ke s.W ks) s.K 7 = _
        rw [app_out _ _ _ fun x hx => hK.out.W x (ke_mem _ _ x hx)]
        exact hK.out.K)
      clear hj hge hK
      as_aux_lemma =>
      go_wp2_with fail
      refine (crash_c wr F g s hD.out KA kn kc ks HKW.out (fun h0 u hu e => by have := HKS.out.lt h0 u hu; have := hF.out u e; omega) HLen.out).mono ?_
      rintro e w6 ⟨rfl, hL⟩
      obtain ⟨F6, hd6, hF6, hb6⟩ := hL.dev (hi := w.heap.size) hF.out hB.out.size
      have HB6 : Hid (Below w.heap.size w w6) := hid (hB.out.trans hb6)
      have HD6 := hid hd6
      have HL6 : Hid ((s.crash ks).lim ≠ some 0) := hid (fun e => by cases e)
      have HW6 : Hid ((s.crash ks).W.length = 0) := hid rfl
      generalize s.crash ks = s6 at *
      clear hL hd6 hF6 hb6 hD hF hB HKW HLen
      go_wp2_with fail
      refine (read_c w6 F6 g s6 HD6.out 7 (by rw [H8.out]; decide) HL6.out).mono ?_
      rintro e w7 ⟨A7, c7, rfl, ho7, hb7⟩
      rw [HK7.out] at ho7
      have HB7 : Hid (Below w.heap.size w w7) := hid (HB6.out.trans (hb7.mono HB6.out.size))
      have CV := hid (fun wx (hx : Below w7.heap.size w7 wx) => run_conv (c := c7) ((Bts.own (l := pad l) ho7).below hx (Nat.le_refl _)))
      have BV := hid (fun wx (hx : Below w7.heap.size w7 wx) => run_conv (c := bc) (HBT.out.below (HB7.out.trans (hx.mono HB7.out.size)) (Nat.le_refl _)))
      have FU := hid (fun wx => full_c l wx HLL.out)
      have WA := hid (fun wx (hx : Below w7.heap.size w7 wx) => waiting_c wx F6 g s6 ((HD6.out.bel hb7).bel hx))
      rw [HW6.out] at WA
      clear ho7 hb7 HD6 HB6
      go_wp2_with fail
      refine wp_region_held_drew (S := fun wx => Below w7.heap.size w7 wx) (by kernel_rfl) ((Below.refl _ _).drew) (fun HS => ?_)
      refine wpAnyH_take (i := 0) (oi := ?oi0) (v := ?v0) ?hi0 (by kernel_rfl) (by kernel_rfl) (by kernel_rfl) ?hQ0 ?hy0 HS ?rest0
      case hi0 => simp only [List.getElem?_toArray, List.getElem?_cons_zero]; exact rfl
      case hQ0 => exact fun _ _ _ h => h
      case hy0 =>
        refine Or.inl ⟨by rfl, ?_⟩
        intro wS hSw
        go_simp
        try with_reducible rfl
      try simp only [Act.put, List.setIfInBounds_toArray, List.set_cons_zero, List.set_cons_succ]
      refine wpAnyH_take (i := 1) (oi := ?oi1) (v := ?v1) ?hi1 (by kernel_rfl) (by kernel_rfl) (by kernel_rfl) ?hQ1 ?hy1 HS ?rest1
      case hi1 => simp only [List.getElem?_toArray, List.getElem?_cons_succ, List.getElem?_cons_zero]; exact rfl
      case hQ1 => exact fun _ _ _ h => h
      case hy1 =>
        refine Or.inl ⟨by rfl, ?_⟩
        intro wS hSw
        go_simp
        try with_reducible rfl
      try simp only [Act.put, List.setIfInBounds_toArray, List.set_cons_zero, List.set_cons_succ]
      refine wpAnyH_take (i := 2) (oi := ?oi2) (v := ?v2) ?hi2 (by kernel_rfl) (by kernel_rfl) (by kernel_rfl) ?hQ2 ?hy2 HS ?rest2
      case hi2 => simp only [List.getElem?_toArray, List.getElem?_cons_succ, List.getElem?_cons_zero]; exact rfl
      case hQ2 => exact fun _ _ _ h => h
      case hy2 =>
        refine Or.inl ⟨by rfl, ?_⟩
        intro wS hSw
        go_simp
        try with_reducible rfl
      try simp only [Act.put, List.setIfInBounds_toArray, List.set_cons_zero, List.set_cons_succ]
      refine wpAnyH_take (i := 3) (oi := ?oi3) (v := ?v3) ?hi3 (by kernel_rfl) (by kernel_rfl) (by kernel_rfl) ?hQ3 ?hy3 HS ?rest3
      case hi3 => simp only [List.getElem?_toArray, List.getElem?_cons_succ, List.getElem?_cons_zero]; exact rfl
      case hQ3 => exact fun _ _ _ h => h
      case hy3 =>
        refine Or.inl ⟨by rfl, ?_⟩
        intro wS hSw
        go_simp
        try with_reducible rfl
      try simp only [Act.put, List.setIfInBounds_toArray, List.set_cons_zero, List.set_cons_succ]
      refine wpAnyH_take (i := 4) (oi := ?oi4) (v := ?v4) ?hi4 (by kernel_rfl) (by kernel_rfl) (by kernel_rfl) ?hQ4 ?hy4 HS ?rest4
      case hi4 => simp only [List.getElem?_toArray, List.getElem?_cons_succ, List.getElem?_cons_zero]; exact rfl
      case hQ4 => exact fun _ _ _ h => h
      case hy4 =>
        refine Or.inl ⟨by rfl, ?_⟩
        intro wS hSw
        have hcv := CV.out wS hSw
        go_simp
        try with_reducible rfl
      try simp only [Act.put, List.setIfInBounds_toArray, List.set_cons_zero, List.set_cons_succ]
      refine wpAnyH_take (i := 5) (oi := ?oi5) (v := ?v5) ?hi5 (by kernel_rfl) (by kernel_rfl) (by kernel_rfl) ?hQ5 ?hy5 HS ?rest5
      case hi5 => simp only [List.getElem?_toArray, List.getElem?_cons_succ, List.getElem?_cons_zero]; exact rfl
      case hQ5 => exact fun _ _ _ h => h
      case hy5 =>
        refine Or.inl ⟨by rfl, ?_⟩
        intro wS hSw
        go_simp
        try with_reducible rfl
      try simp only [Act.put, List.setIfInBounds_toArray, List.set_cons_zero, List.set_cons_succ]
      refine wpAnyH_take (i := 6) (oi := ?oi6) (v := ?v6) ?hi6 (by kernel_rfl) (by kernel_rfl) (by kernel_rfl) ?hQ6 ?hy6 HS ?rest6
      case hi6 => simp only [List.getElem?_toArray, List.getElem?_cons_succ, List.getElem?_cons_zero]; exact rfl
      case hQ6 => exact fun _ _ _ h => h
      case hy6 =>
        refine Or.inl ⟨by rfl, ?_⟩
        intro wS hSw
        have hcv := BV.out wS hSw
        go_simp
        try with_reducible rfl
      try simp only [Act.put, List.setIfInBounds_toArray, List.set_cons_zero, List.set_cons_succ]
      refine wpAnyH_ready (rs := [7]) (by kernel_rfl) (by simp) ?_
      refine AllReadyH.cons (o := ?o7) ?ho7 (fun K hK => ?step7) AllReadyH.nil
      case ho7 => simp only [List.getElem?_toArray, List.getElem?_cons_succ, List.getElem?_cons_zero]; exact rfl
      go_simp
      refine (FU.out _).mono ?_
      rintro e wa ⟨rfl, rfl⟩
      refine hK.out _ _ HS (fun HS => ?_)
      clear hK K
      try simp only [Act.put, List.setIfInBounds_toArray, List.set_cons_zero, List.set_cons_succ]
      refine wpAnyH_take (i := 8) (oi := ?oi8) (v := ?v8) ?hi8 (by kernel_rfl) (by kernel_rfl) (by kernel_rfl) ?hQ8 ?hy8 HS ?rest8
      case hi8 => simp only [List.getElem?_toArray, List.getElem?_cons_succ, List.getElem?_cons_zero]; exact rfl
      case hQ8 => exact fun _ _ _ h => h
      case hy8 =>
        refine Or.inl ⟨by rfl, ?_⟩
        intro wS hSw
        go_simp
        try with_reducible rfl
      try simp only [Act.put, List.setIfInBounds_toArray, List.set_cons_zero, List.set_cons_succ]
      refine wpAnyH_take (i := 9) (oi := ?oi9) (v := ?v9) ?hi9 (by kernel_rfl) (by kernel_rfl) (by kernel_rfl) ?hQ9 ?hy9 HS ?rest9
      case hi9 => simp only [List.getElem?_toArray, List.getElem?_cons_succ, List.getElem?_cons_zero]; exact rfl
      case hQ9 => exact fun _ _ _ h => h
      case hy9 =>
        refine Or.inl ⟨by rfl, ?_⟩
        intro wS hSw
        go_simp
        try with_reducible rfl
      try simp only [Act.put, List.setIfInBounds_toArray, List.set_cons_zero, List.set_cons_succ]
      refine wpAnyH_take (i := 10) (oi := ?oi10) (v := ?v10) ?hi10 (by kernel_rfl) (by kernel_rfl) (by kernel_rfl) ?hQ10 ?hy10 HS ?rest10
      case hi10 => simp only [List.getElem?_toArray, List.getElem?_cons_succ, List.getElem?_cons_zero]; exact rfl
      case hQ10 => exact fun _ _ _ h => h
      case hy10 =>
        refine Or.inl ⟨by rfl, ?_⟩
        intro wS hSw
        go_simp
        try with_reducible rfl
      try simp only [Act.put, List.setIfInBounds_toArray, List.set_cons_zero, List.set_cons_succ]
      refine wpAnyH_take (i := 11) (oi := ?oi11) (v := ?v11) ?hi11 (by kernel_rfl) (by kernel_rfl) (by kernel_rfl) ?hQ11 ?hy11 HS ?rest11
      case hi11 => simp only [List.getElem?_toArray, List.getElem?_cons_succ, List.getElem?_cons_zero]; exact rfl
      case hQ11 => exact fun _ _ _ h => h
      case hy11 =>
        refine Or.inl ⟨by rfl, ?_⟩
        intro wS hSw
        go_simp
        try with_reducible rfl
      try simp only [Act.put, List.setIfInBounds_toArray, List.set_cons_zero, List.set_cons_succ]
      refine wpAnyH_ready (rs := [12]) (by kernel_rfl) (by simp) ?_
      refine AllReadyH.cons (o := ?o12) ?ho12 (fun K hK => ?step12) AllReadyH.nil
      case ho12 => simp only [List.getElem?_toArray, List.getElem?_cons_succ, List.getElem?_cons_zero]; exact rfl
      go_simp
      refine (WA.out _ HS).mono ?_
      rintro e wc ⟨rfl, rfl⟩
      refine hK.out _ _ HS (fun HS => ?_)
      clear hK K
      try simp only [Act.put, List.setIfInBounds_toArray, List.set_cons_zero, List.set_cons_succ]
      refine wpAnyH_take (i := 13) (oi := ?oi13) (v := ?v13) ?hi13 (by kernel_rfl) (by kernel_rfl) (by kernel_rfl) ?hQ13 ?hy13 HS ?rest13
      case hi13 => simp only [List.getElem?_toArray, List.getElem?_cons_succ, List.getElem?_cons_zero]; exact rfl
      case hQ13 => exact fun _ _ _ h => h
      case hy13 =>
        refine Or.inl ⟨by rfl, ?_⟩
        intro wS hSw
        go_simp
        try with_reducible rfl
      try simp only [Act.put, List.setIfInBounds_toArray, List.set_cons_zero, List.set_cons_succ]
      refine wpAnyH_take (i := 14) (oi := ?oi14) (v := ?v14) ?hi14 (by kernel_rfl) (by kernel_rfl) (by kernel_rfl) ?hQ14 ?hy14 HS ?rest14
      case hi14 => simp only [List.getElem?_toArray, List.getElem?_cons_succ, List.getElem?_cons_zero]; exact rfl
      case hQ14 => exact fun _ _ _ h => h
      case hy14 =>
        refine Or.inl ⟨by rfl, ?_⟩
        intro wS hSw
        go_simp
        try with_reducible rfl
      try simp only [Act.put, List.setIfInBounds_toArray, List.set_cons_zero, List.set_cons_succ]
      refine wpAnyH_take (i := 15) (oi := ?oi15) (v := ?v15) ?hi15 (by kernel_rfl) (by kernel_rfl) (by kernel_rfl) ?hQ15 ?hy15 HS ?rest15
      case hi15 => simp only [List.getElem?_toArray, List.getElem?_cons_succ, List.getElem?_cons_zero]; exact rfl
      case hQ15 => exact fun _ _ _ h => h
      case hy15 =>
        refine Or.inl ⟨by rfl, ?_⟩
        intro wS hSw
        go_simp
        try with_reducible rfl
      try simp only [Act.put, List.setIfInBounds_toArray, List.set_cons_zero, List.set_cons_succ]
      refine wpAnyH_done (by kernel_rfl) ?_ _
      have HB9 := hid HS
      clear HS CV BV FU WA
      go_wp2
      go_ret
      exact ⟨rfl, HB7.out.trans (HB9.out.mono HB7.out.size)⟩

theorem walkDeviceKeeps (a0 : Option Addr) (n0 c0 : Nat) (z0 : List Int) (a1 : Option Addr) (n1 c1 : Nat) (a2 : Option Addr) (n2 c2 : Nat) (z2 : List Bool) (w : World) (w0 : IsRow .u8 w a0 n0 c0 z0) (w1 : Ops w w.heap.size a1 n1 ∧ n1 ≤ 9223372036854775807) (w2 : Lst w 0 w.heap.size a2 n2 (z2.map Value.bool)) :
    Calls Try.prog 5 #[.slice a0 n0 c0, .slice a1 n1 c1, .slice a2 n2 c2] w fun e w' => e = .returned (.bool true) ∧ Below w.heap.size w w' := by
  obtain ⟨l, hb, _⟩ := argB w0
  by_cases h : 16 < n0 ∨ 200 < n2
  · exact keeps_long a0 n0 c0 _ a2 n2 c2 w h
  · exact keeps_core a0 n0 c0 l a1 n1 c1 a2 n2 c2 z2 w hb (by omega) w1.1 w1.2 w2 (by omega)
end Go.Proofs.Ytdgcoipflenlgaa
