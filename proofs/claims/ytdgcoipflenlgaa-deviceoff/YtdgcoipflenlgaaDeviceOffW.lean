/- The walk of DeviceOff: for every input the law answers true. -/
import Derived.Test.YtdgcoipflenlgaaDvFirst
import Derived.Test.YtdgcoipflenlgaaFrame
namespace Go.Proofs.Ytdgcoipflenlgaa
open Go.RowKit

/-- What holds of the device behind j calls of at most n. -/
structure OffSt (s : St) (n j : Nat) : Prop where
  n4 : s.n = 4
  lim : s.lim = some (n - j)
  K : s.K 3 = pad [107, 101, 112, 116]
  W : ∀ x ∈ s.W, x.1 ≠ 3
  len : s.W.length ≤ j
theorem OffSt.off {s : St} {n j : Nat} (h : OffSt s n j) (ho : n ≤ j) : s.lim = some 0 := by rw [h.lim, Nat.sub_eq_zero_of_le ho]
theorem OffSt.on {s : St} {n j : Nat} (h : OffSt s n j) (ho : j < n) : s.lim ≠ some 0 := by
  rw [h.lim]
  intro e
  injection e with e
  omega
theorem OffSt.same {s : St} {n j : Nat} (h : OffSt s n j) (ho : n ≤ j) : OffSt s n (j + 1) := ⟨h.n4, by rw [h.off ho, Nat.sub_eq_zero_of_le (by omega)], h.K, h.W, by have := h.len; omega⟩
theorem OffSt.beat {s : St} {n j : Nat} (h : OffSt s n j) : OffSt s.dec n (j + 1) := ⟨h.n4, by
  show s.lim.map _ = _
  rw [h.lim]
  show some (n - j - 1) = some (n - (j + 1))
  rw [Nat.sub_sub], h.K, h.W, by have := h.len; show s.W.length ≤ _; omega⟩
theorem OffSt.sync {s : St} {n j : Nat} (h : OffSt s n j) : OffSt s.sync n j := ⟨h.n4, h.lim, (app_out _ _ _ h.W).trans h.K, fun x hx => (by cases hx), Nat.zero_le _⟩
theorem OffSt.put {s : St} {n j i : Nat} (h : OffSt s n j) (hi : i < 3) (l : List UInt8) : OffSt (s.put i l).dec n (j + 1) := ⟨h.n4, h.beat.lim, h.K, fun x hx => (by
  rcases List.mem_append.1 hx with hx | hx
  · exact h.W x hx
  · rw [List.mem_singleton] at hx; subst hx; exact fun e => by simp at e; omega), by have := h.len; show (s.W ++ [(i, pad l)]).length ≤ _; rw [List.length_append]; simp; omega⟩

set_option maxRecDepth 20000 in
set_option maxHeartbeats 8000000 in
theorem off_core (n : Nat) (hn : n < 40) (a : Int) (b : Int) (w : World) (ha : a % 40 = (n : Int)) (ha0 : 0 ≤ a) (_ha1 : a < 256) (_hb0 : 0 ≤ b) (_hb1 : b < 18446744073709551616) :
    Calls Try.prog 7 #[.int .u8 a, .int .u64 b] w fun e w' => e = .returned (.bool true) ∧ Below w.heap.size w w' := by
  have hat : a.tmod 40 = (n : Int) := by rw [Int.tmod_eq_emod_of_nonneg ha0]; exact ha
  have HN := hid hn
  clear hn
  go_enter Try.func7, Try.ntmps7
  go_wp2_with fail
  refine (first_c w).mono ?_
  rintro e w1 ⟨rfl, hb1⟩
  have HB1 := hid hb1
  clear hb1
  go_wp2_with fail
  refine (new_c 4 w1 (by decide) (by decide)).mono ?_
  rintro e w2 ⟨g, F2, rfl, hd2, hb2, hF2⟩
  have HB2 : Hid (Below w.heap.size w w2) := hid (HB1.out.trans (hb2.mono HB1.out.size))
  have HF2 : Hid (∀ j, F2 j → w.heap.size ≤ j) := hid (fun j hj => Nat.le_trans HB1.out.size (hF2 j hj))
  have HD2 := hid hd2
  clear hd2 hb2 hF2 HB1
  have kc := fun (w : World) (C : Array Value) (n c : Nat) => Lib.run_convert_bytes_const (P := Try.prog) w 31 5 C n c Try.underlying31 Try.underlying5
  go_wp2_with fail
  refine (write_c _ F2 g (St.new 4) (HD2.out.bel ((Below.refl _ _).alloc (Nat.le_refl _) _)) 3 (by decide) _ 4 4 [107, 101, 112, 116] ((Bts.litM w2 5 [107, 101, 112, 116] _).wide (by omega) (by simp)) (fun u hu => by injection hu with hu; subst hu; exact HD2.out.no (Nat.le_refl _)) (by decide) (by decide) (by decide)).mono ?_
  rintro e w3 ⟨rfl, hL⟩
  obtain ⟨F3, hd3, hF3, hb3⟩ := hL.dev (hi := w.heap.size) HF2.out (Nat.le_trans HB2.out.size (by simp))
  have HB3 : Hid (Below w.heap.size w w3) := hid ((HB2.out.alloc HB2.out.size _).trans hb3)
  have HD3 := hid hd3
  have HF3 := hid hF3
  clear hL hd3 hF3 hb3 HD2 HB2 HF2 kc
  go_wp2_with fail
  refine (sync_c w3 F3 g _ HD3.out (by decide) (by decide)).mono ?_
  rintro e w4 ⟨rfl, hL⟩
  obtain ⟨F4, hd4, hF4, hb4⟩ := hL.dev (hi := w.heap.size) HF3.out HB3.out.size
  have HB4 : Hid (Below w.heap.size w w4) := hid (HB3.out.trans hb4)
  have HD4 := hid hd4
  have HF4 := hid hF4
  have HO4 : Hid (OffSt (((((St.new 4).put 3 [107, 101, 112, 116]).dec).sync.dec).bound (n : Int)) n 0) := hid ⟨rfl, by show some ((n : Int).toNat) = _; simp, rfl, fun x hx => (by cases hx), Nat.le_refl _⟩
  generalize (((St.new 4).put 3 [107, 101, 112, 116]).dec).sync.dec = s4 at *
  clear hL hd4 hF4 hb4 HD3 HB3 HF3
  go_wp2_with fail
  refine (limit_c w4 F4 g s4 HD4.out n (by have := HN.out; omega)).mono ?_
  rintro e w5 ⟨rfl, hL⟩
  obtain ⟨F5, hd5, hF5, hb5⟩ := hL.dev (hi := w.heap.size) HF4.out HB4.out.size
  have HB5 : Hid (Below w.heap.size w w5) := hid (HB4.out.trans hb5)
  have HD5 := hid hd5
  have HF5 := hid hF5
  generalize s4.bound (n : Int) = s5 at *
  clear hL hd5 hF5 hb5 HD4 HB4 HF4 ha ha0 hat
  go_wp2_with fail
  go_loopw [35] (fun iv wr => ∃ (j : Nat) (F : Nat → Prop) (s : St), iv = .int .i64 (j : Int) ∧ Hid (j ≤ 60) ∧ Hid (OffSt s n j) ∧ Hid (Dev wr F g s) ∧ Hid (∀ k, F k → w.heap.size ≤ k) ∧ Hid (Below w.heap.size w wr)) (fun iv _ => 60 - (intOf iv).toNat)
  case atStart => exact ⟨0, F5, s5, rfl, hid (by decide), HO4, HD5, HF5, HB5⟩
  case round =>
    obtain ⟨j, F, s, rfl, hj, hO, hD, hF, hB⟩ := hrel
    clear HD5 HF5 HB5 HO4
    rcases Nat.lt_or_ge j 60 with hlt | hge
    · have j3 : decide ((j : Int) < 60) = true := by simp; omega
      have j4 : decide (j < 60) = true := by simpa using hlt
      have e256 : (j : Int) % 256 = (j : Int) := by omega
      have hcell : Bts (wr.alloc (.cells #[.int .u8 (j : Int)] 5)) wr.heap.size (wr.heap.size + 1) (some ⟨wr.heap.size, 0, none⟩) 1 [UInt8.ofNat j] := by
        have h0 := Bts.lit wr 5 [UInt8.ofNat j]
        rw [show (bs [UInt8.ofNat j]).toArray = #[.int .u8 (j : Int)] by simp [bs]; omega] at h0
        exact h0
      have HC := hid hcell
      have BA : Hid (∀ o, Below wr.heap.size wr (wr.alloc o)) := hid (fun o => (Below.refl _ _).alloc (Nat.le_refl _) o)
      have HX := hid hlt
      clear hcell
      have hnj : (j < n ∧ decide ((j : Int) < (n : Int)) = true ∧ decide (j < n) = true) ∨ (n ≤ j ∧ decide ((j : Int) < (n : Int)) = false ∧ decide (j < n) = false) := by
        rcases Nat.lt_or_ge j n with h | h
        · exact .inl ⟨h, by simp; omega, by simpa using h⟩
        · exact .inr ⟨h, by simp; omega, by simp; omega⟩
      rcases hnj with ⟨hl, l1, l2⟩ | ⟨hl, l1, l2⟩
      · have HL := hid hl
        clear hl
        as_aux_lemma =>
        go_wp2_with fail
        · rw [show (j : Int) % 3 = ((j % 3 : Nat) : Int) by omega]
          refine (write_c _ F g s (hD.out.bel (BA.out _)) (j % 3) (by rw [hO.out.n4]; omega) _ 1 1 [UInt8.ofNat j] (HC.out.wide (Nat.zero_le _) (by simp)) (fun u hu => by injection hu with hu; subst hu; exact hD.out.no (Nat.le_refl _)) (by decide) (hO.out.on HL.out) (by have := hO.out.len; have := HX.out; omega)).mono ?_
          rintro e w6 ⟨rfl, hL⟩
          obtain ⟨F6, hd6, hF6, hb6⟩ := hL.dev (hi := w.heap.size) hF.out (Nat.le_trans hB.out.size (BA.out _).size)
          have HB6 : Hid (Below w.heap.size w w6) := hid ((hB.out.trans ((BA.out _).mono hB.out.size)).trans hb6)
          have HO6 := hid (hO.out.put (i := j % 3) (by omega) [UInt8.ofNat j])
          have HD6 := hid hd6
          have HF6 := hid hF6
          generalize (s.put (j % 3) [UInt8.ofNat j]).dec = s6 at *
          clear hL hd6 hF6 hb6 hD hF hB hO HC BA
          go_wp2
          exact ⟨⟨j + 1, F6, s6, congrArg (Value.int .i64) (by omega : (j : Int) + 1 = ((j + 1 : Nat) : Int)), hid HX.out, HO6, HD6, HF6, HB6⟩, by have := HX.out; simp [intOf]; omega⟩
        · refine (sync_c wr F g s hD.out (hO.out.on HL.out) (by have := hO.out.len; have := HX.out; omega)).mono ?_
          rintro e w6 ⟨rfl, hL⟩
          obtain ⟨F6, hd6, hF6, hb6⟩ := hL.dev (hi := w.heap.size) hF.out hB.out.size
          have HB6 : Hid (Below w.heap.size w w6) := hid (hB.out.trans hb6)
          have HO6 := hid hO.out.sync.beat
          have HD6 := hid hd6
          have HF6 := hid hF6
          generalize s.sync.dec = s6 at *
          clear hL hd6 hF6 hb6 hD hF hB hO HC BA
          go_wp2
          exact ⟨⟨j + 1, F6, s6, congrArg (Value.int .i64) (by omega : (j : Int) + 1 = ((j + 1 : Nat) : Int)), hid HX.out, HO6, HD6, HF6, HB6⟩, by have := HX.out; simp [intOf]; omega⟩
        · refine (beat_on wr F g s hD.out (hO.out.on HL.out)).mono ?_
          rintro e w6 ⟨rfl, hL⟩
          obtain ⟨F6, hd6, hF6, hb6⟩ := hL.dev (hi := w.heap.size) hF.out hB.out.size
          have HB6 : Hid (Below w.heap.size w w6) := hid (hB.out.trans hb6)
          have HO6 := hid hO.out.beat
          have HD6 := hid hd6
          have HF6 := hid hF6
          generalize s.dec = s6 at *
          clear hL hd6 hF6 hb6 hD hF hB hO HC BA
          go_wp2
          exact ⟨⟨j + 1, F6, s6, congrArg (Value.int .i64) (by omega : (j : Int) + 1 = ((j + 1 : Nat) : Int)), hid HX.out, HO6, HD6, HF6, HB6⟩, by have := HX.out; simp [intOf]; omega⟩
      · have HL := hid hl
        have HO6 := hid (hO.out.same hl)
        clear hl
        as_aux_lemma =>
        go_wp2_with fail
        · have HD6 : Hid (Dev (wr.alloc (.cells #[.int .u8 (j : Int)] 5)) F g s) := hid (hD.out.bel (BA.out _))
          have HB6 : Hid (Below w.heap.size w (wr.alloc (.cells #[.int .u8 (j : Int)] 5))) := hid (hB.out.trans ((BA.out _).mono hB.out.size))
          clear HC BA
          generalize wr.alloc (.cells #[.int .u8 (j : Int)] 5) = w6 at *
          refine (write_off w6 F g s HD6.out _ _ 1 1 (by unfold bad; rw [hO.out.n4]; omega) (hO.out.off HL.out)).mono ?_
          rintro e w7 ⟨rfl, rfl⟩
          go_wp2
          exact ⟨⟨j + 1, F, s, congrArg (Value.int .i64) (by omega : (j : Int) + 1 = ((j + 1 : Nat) : Int)), hid HX.out, HO6, HD6, hF, HB6⟩, by have := HX.out; simp [intOf]; omega⟩
        · refine (sync_off wr F g s hD.out (hO.out.off HL.out)).mono ?_
          rintro e w7 ⟨rfl, rfl⟩
          go_wp2
          exact ⟨⟨j + 1, F, s, congrArg (Value.int .i64) (by omega : (j : Int) + 1 = ((j + 1 : Nat) : Int)), hid HX.out, HO6, hD, hF, hB⟩, by have := HX.out; simp [intOf]; omega⟩
        · refine (beat_off wr F g s hD.out (hO.out.off HL.out)).mono ?_
          rintro e w7 ⟨rfl, rfl⟩
          go_wp2
          exact ⟨⟨j + 1, F, s, congrArg (Value.int .i64) (by omega : (j : Int) + 1 = ((j + 1 : Nat) : Int)), hid HX.out, HO6, hD, hF, hB⟩, by have := HX.out; simp [intOf]; omega⟩
    · have j3 : decide ((j : Int) < 60) = false := by simp; omega
      have j4 : decide (j < 60) = false := by simp; omega
      have HL : Hid (s.lim = some 0) := hid (hO.out.off (by have := HN.out; omega))
      have HLen : Hid (s.W.length ≤ 1000000) := hid (by have := hO.out.len; have := hj.out; omega)
      have H4 := hid hO.out.n4
      have HKK : Hid (app (s.crash []).W (s.crash []).K 3 = pad [107, 101, 112, 116]) := hid (by
        show app (ke s.W []) s.K 3 = _
        rw [ke_none]
        exact hO.out.K)
      clear hO hj hge
      as_aux_lemma =>
      go_wp2_with fail
      refine (waiting_c wr F g s hD.out).mono ?_
      rintro e w6 ⟨rfl, rfl⟩
      go_wp2_with fail
      refine (read_off wr F g s hD.out 3 (by unfold bad; rw [H4.out]; decide) HL.out).mono ?_
      rintro e w6 ⟨rfl, rfl⟩
      go_wp2_with fail
      refine (write_off wr F g s hD.out 0 none 0 0 (by unfold bad; rw [H4.out]; decide) HL.out).mono ?_
      rintro e w6 ⟨rfl, rfl⟩
      go_wp2_with fail
      refine (waiting_c wr F g s hD.out).mono ?_
      rintro e w6 ⟨rfl, rfl⟩
      go_wp2_with fail
      refine (crash_c wr F g s hD.out none 0 0 [] ⟨rfl, fun h => absurd h (by decide)⟩ (fun u hu => by cases hu) HLen.out).mono ?_
      rintro e w6 ⟨rfl, hL⟩
      obtain ⟨F6, hd6, hF6, hb6⟩ := hL.dev (hi := w.heap.size) hF.out hB.out.size
      have HB6 : Hid (Below w.heap.size w w6) := hid (hB.out.trans hb6)
      have HD6 := hid hd6
      have HF6 := hid hF6
      have HL6 : Hid ((s.crash []).lim ≠ some 0) := hid (fun e => by cases e)
      have H46 : Hid ((s.crash []).n = 4) := H4
      generalize s.crash [] = s6 at *
      clear hL hd6 hF6 hb6 hD hF hB
      go_wp2_with fail
      refine (read_c w6 F6 g s6 HD6.out 3 (by rw [H46.out]; decide) HL6.out).mono ?_
      rintro e w7 ⟨A7, c7, rfl, ho7, hb7⟩
      rw [HKK.out] at ho7
      have HO7 := hid (Bts.own (l := pad [107, 101, 112, 116]) ho7)
      have HD7 := hid (HD6.out.bel hb7)
      have HB7 : Hid (Below w.heap.size w w7) := hid (HB6.out.trans (hb7.mono HB6.out.size))
      have HZ7 := hid hb7.size
      have HNF : Hid (∀ k, w6.heap.size ≤ k → ¬ F6 k) := hid (fun k hk => HD6.out.no hk)
      clear ho7 hb7 HD6 HB6
      have CV := hid (fun wx (hx : Bts wx w6.heap.size w7.heap.size A7 16 (pad [107, 101, 112, 116])) => run_conv (c := c7) hx)
      have FU := hid (fun wx => full_c [107, 101, 112, 116] wx (by decide))
      have BE := hid (fun wx (hx : Dev wx F6 g s6) => beat_on wx F6 g s6 hx HL6.out)
      rw [show str [107, 101, 112, 116] = ⟨#[107, 101, 112, 116]⟩ from rfl] at FU
      generalize pad [107, 101, 112, 116] = Pd at *
      clear HL HLen HL6 HN
      go_wp2_with fail
      refine wp_region_held_drew (S := fun wx => Bts wx w6.heap.size w7.heap.size A7 16 Pd ∧ Below w.heap.size w wx) (by kernel_rfl) ⟨HO7.out.keep (fun k _ _ => rfl), HB7.out.drew⟩ (fun HS => ?_)
      refine wpAnyH_take (i := 0) (oi := ?oi0) (v := ?v0) ?hi0 (by kernel_rfl) (by kernel_rfl) (by kernel_rfl) ?hQ0 ?hy0 HS ?rest0
      case hi0 => simp only [List.getElem?_toArray, List.getElem?_cons_zero]; exact rfl
      case hQ0 => exact fun _ _ _ h => h
      case hy0 =>
        refine Or.inl ⟨by rfl, ?_⟩
        intro wS hSw
        go_simp
        try with_reducible rfl
      try simp only [Act.put, List.setIfInBounds_toArray, List.set_cons_zero, List.set_cons_succ]
      refine wpAnyH_take (i := 1) (oi := ?oi1) (v := ?v1) ?hi1 (by kernel_rfl) (by kernel_rfl) (by kernel_rfl) ?hQ1 ?hy1 HS ?rest1
      case hi1 => simp only [List.getElem?_toArray, List.getElem?_cons_succ, List.getElem?_cons_zero]; exact rfl
      case hQ1 => exact fun _ _ _ h => h
      case hy1 =>
        refine Or.inl ⟨by rfl, ?_⟩
        intro wS hSw
        go_simp
        try with_reducible rfl
      try simp only [Act.put, List.setIfInBounds_toArray, List.set_cons_zero, List.set_cons_succ]
      refine wpAnyH_take (i := 2) (oi := ?oi2) (v := ?v2) ?hi2 (by kernel_rfl) (by kernel_rfl) (by kernel_rfl) ?hQ2 ?hy2 HS ?rest2
      case hi2 => simp only [List.getElem?_toArray, List.getElem?_cons_succ, List.getElem?_cons_zero]; exact rfl
      case hQ2 => exact fun _ _ _ h => h
      case hy2 =>
        refine Or.inl ⟨by rfl, ?_⟩
        intro wS hSw
        go_simp
        try with_reducible rfl
      try simp only [Act.put, List.setIfInBounds_toArray, List.set_cons_zero, List.set_cons_succ]
      refine wpAnyH_take (i := 3) (oi := ?oi3) (v := ?v3) ?hi3 (by kernel_rfl) (by kernel_rfl) (by kernel_rfl) ?hQ3 ?hy3 HS ?rest3
      case hi3 => simp only [List.getElem?_toArray, List.getElem?_cons_succ, List.getElem?_cons_zero]; exact rfl
      case hQ3 => exact fun _ _ _ h => h
      case hy3 =>
        refine Or.inl ⟨by rfl, ?_⟩
        intro wS hSw
        go_simp
        try with_reducible rfl
      try simp only [Act.put, List.setIfInBounds_toArray, List.set_cons_zero, List.set_cons_succ]
      refine wpAnyH_take (i := 4) (oi := ?oi4) (v := ?v4) ?hi4 (by kernel_rfl) (by kernel_rfl) (by kernel_rfl) ?hQ4 ?hy4 HS ?rest4
      case hi4 => simp only [List.getElem?_toArray, List.getElem?_cons_succ, List.getElem?_cons_zero]; exact rfl
      case hQ4 => exact fun _ _ _ h => h
      case hy4 =>
        refine Or.inl ⟨by rfl, ?_⟩
        intro wS hSw
        go_simp
        try with_reducible rfl
      try simp only [Act.put, List.setIfInBounds_toArray, List.set_cons_zero, List.set_cons_succ]
      refine wpAnyH_take (i := 5) (oi := ?oi5) (v := ?v5) ?hi5 (by kernel_rfl) (by kernel_rfl) (by kernel_rfl) ?hQ5 ?hy5 HS ?rest5
      case hi5 => simp only [List.getElem?_toArray, List.getElem?_cons_succ, List.getElem?_cons_zero]; exact rfl
      case hQ5 => exact fun _ _ _ h => h
      case hy5 =>
        refine Or.inl ⟨by rfl, ?_⟩
        intro wS hSw
        go_simp
        try with_reducible rfl
      try simp only [Act.put, List.setIfInBounds_toArray, List.set_cons_zero, List.set_cons_succ]
      refine wpAnyH_take (i := 6) (oi := ?oi6) (v := ?v6) ?hi6 (by kernel_rfl) (by kernel_rfl) (by kernel_rfl) ?hQ6 ?hy6 HS ?rest6
      case hi6 => simp only [List.getElem?_toArray, List.getElem?_cons_succ, List.getElem?_cons_zero]; exact rfl
      case hQ6 => exact fun _ _ _ h => h
      case hy6 =>
        refine Or.inl ⟨by rfl, ?_⟩
        intro wS hSw
        go_simp
        try with_reducible rfl
      try simp only [Act.put, List.setIfInBounds_toArray, List.set_cons_zero, List.set_cons_succ]
      refine wpAnyH_take (i := 7) (oi := ?oi7) (v := ?v7) ?hi7 (by kernel_rfl) (by kernel_rfl) (by kernel_rfl) ?hQ7 ?hy7 HS ?rest7
      case hi7 => simp only [List.getElem?_toArray, List.getElem?_cons_succ, List.getElem?_cons_zero]; exact rfl
      case hQ7 => exact fun _ _ _ h => h
      case hy7 =>
        refine Or.inl ⟨by rfl, ?_⟩
        intro wS hSw
        go_simp
        try with_reducible rfl
      try simp only [Act.put, List.setIfInBounds_toArray, List.set_cons_zero, List.set_cons_succ]
      refine wpAnyH_take (i := 8) (oi := ?oi8) (v := ?v8) ?hi8 (by kernel_rfl) (by kernel_rfl) (by kernel_rfl) ?hQ8 ?hy8 HS ?rest8
      case hi8 => simp only [List.getElem?_toArray, List.getElem?_cons_succ, List.getElem?_cons_zero]; exact rfl
      case hQ8 => exact fun _ _ _ h => h
      case hy8 =>
        refine Or.inl ⟨by rfl, ?_⟩
        intro wS hSw
        go_simp
        try with_reducible rfl
      try simp only [Act.put, List.setIfInBounds_toArray, List.set_cons_zero, List.set_cons_succ]
      refine wpAnyH_take (i := 9) (oi := ?oi9) (v := ?v9) ?hi9 (by kernel_rfl) (by kernel_rfl) (by kernel_rfl) ?hQ9 ?hy9 HS ?rest9
      case hi9 => simp only [List.getElem?_toArray, List.getElem?_cons_succ, List.getElem?_cons_zero]; exact rfl
      case hQ9 => exact fun _ _ _ h => h
      case hy9 =>
        refine Or.inl ⟨by rfl, ?_⟩
        intro wS hSw
        go_simp
        try with_reducible rfl
      try simp only [Act.put, List.setIfInBounds_toArray, List.set_cons_zero, List.set_cons_succ]
      refine wpAnyH_take (i := 10) (oi := ?oi10) (v := ?v10) ?hi10 (by kernel_rfl) (by kernel_rfl) (by kernel_rfl) ?hQ10 ?hy10 HS ?rest10
      case hi10 => simp only [List.getElem?_toArray, List.getElem?_cons_succ, List.getElem?_cons_zero]; exact rfl
      case hQ10 => exact fun _ _ _ h => h
      case hy10 =>
        refine Or.inl ⟨by rfl, ?_⟩
        intro wS hSw
        go_simp
        try with_reducible rfl
      try simp only [Act.put, List.setIfInBounds_toArray, List.set_cons_zero, List.set_cons_succ]
      refine wpAnyH_take (i := 11) (oi := ?oi11) (v := ?v11) ?hi11 (by kernel_rfl) (by kernel_rfl) (by kernel_rfl) ?hQ11 ?hy11 HS ?rest11
      case hi11 => simp only [List.getElem?_toArray, List.getElem?_cons_succ, List.getElem?_cons_zero]; exact rfl
      case hQ11 => exact fun _ _ _ h => h
      case hy11 =>
        refine Or.inl ⟨by rfl, ?_⟩
        intro wS hSw
        go_simp
        try with_reducible rfl
      try simp only [Act.put, List.setIfInBounds_toArray, List.set_cons_zero, List.set_cons_succ]
      refine wpAnyH_take (i := 12) (oi := ?oi12) (v := ?v12) ?hi12 (by kernel_rfl) (by kernel_rfl) (by kernel_rfl) ?hQ12 ?hy12 HS ?rest12
      case hi12 => simp only [List.getElem?_toArray, List.getElem?_cons_succ, List.getElem?_cons_zero]; exact rfl
      case hQ12 => exact fun _ _ _ h => h
      case hy12 =>
        refine Or.inl ⟨by rfl, ?_⟩
        intro wS hSw
        go_simp
        try with_reducible rfl
      try simp only [Act.put, List.setIfInBounds_toArray, List.set_cons_zero, List.set_cons_succ]
      refine wpAnyH_take (i := 13) (oi := ?oi13) (v := ?v13) ?hi13 (by kernel_rfl) (by kernel_rfl) (by kernel_rfl) ?hQ13 ?hy13 HS ?rest13
      case hi13 => simp only [List.getElem?_toArray, List.getElem?_cons_succ, List.getElem?_cons_zero]; exact rfl
      case hQ13 => exact fun _ _ _ h => h
      case hy13 =>
        refine Or.inl ⟨by rfl, ?_⟩
        intro wS hSw
        go_simp
        try with_reducible rfl
      try simp only [Act.put, List.setIfInBounds_toArray, List.set_cons_zero, List.set_cons_succ]
      refine wpAnyH_take (i := 14) (oi := ?oi14) (v := ?v14) ?hi14 (by kernel_rfl) (by kernel_rfl) (by kernel_rfl) ?hQ14 ?hy14 HS ?rest14
      case hi14 => simp only [List.getElem?_toArray, List.getElem?_cons_succ, List.getElem?_cons_zero]; exact rfl
      case hQ14 => exact fun _ _ _ h => h
      case hy14 =>
        refine Or.inl ⟨by rfl, ?_⟩
        intro wS hSw
        go_simp
        try with_reducible rfl
      try simp only [Act.put, List.setIfInBounds_toArray, List.set_cons_zero, List.set_cons_succ]
      refine wpAnyH_take (i := 15) (oi := ?oi15) (v := ?v15) ?hi15 (by kernel_rfl) (by kernel_rfl) (by kernel_rfl) ?hQ15 ?hy15 HS ?rest15
      case hi15 => simp only [List.getElem?_toArray, List.getElem?_cons_succ, List.getElem?_cons_zero]; exact rfl
      case hQ15 => exact fun _ _ _ h => h
      case hy15 =>
        refine Or.inl ⟨by rfl, ?_⟩
        intro wS hSw
        go_simp
        try with_reducible rfl
      try simp only [Act.put, List.setIfInBounds_toArray, List.set_cons_zero, List.set_cons_succ]
      refine wpAnyH_take (i := 16) (oi := ?oi16) (v := ?v16) ?hi16 (by kernel_rfl) (by kernel_rfl) (by kernel_rfl) ?hQ16 ?hy16 HS ?rest16
      case hi16 => simp only [List.getElem?_toArray, List.getElem?_cons_succ, List.getElem?_cons_zero]; exact rfl
      case hQ16 => exact fun _ _ _ h => h
      case hy16 =>
        refine Or.inl ⟨by rfl, ?_⟩
        intro wS hSw
        go_simp
        try with_reducible rfl
      try simp only [Act.put, List.setIfInBounds_toArray, List.set_cons_zero, List.set_cons_succ]
      refine wpAnyH_take (i := 17) (oi := ?oi17) (v := ?v17) ?hi17 (by kernel_rfl) (by kernel_rfl) (by kernel_rfl) ?hQ17 ?hy17 HS ?rest17
      case hi17 => simp only [List.getElem?_toArray, List.getElem?_cons_succ, List.getElem?_cons_zero]; exact rfl
      case hQ17 => exact fun _ _ _ h => h
      case hy17 =>
        refine Or.inl ⟨by rfl, ?_⟩
        intro wS hSw
        have hcv := CV.out wS hSw.1
        go_simp
        try with_reducible rfl
      try simp only [Act.put, List.setIfInBounds_toArray, List.set_cons_zero, List.set_cons_succ]
      refine wpAnyH_ready (rs := [18]) (by kernel_rfl) (by simp) ?_
      refine AllReadyH.cons (o := ?o18) ?ho18 (fun K hK => ?step18) AllReadyH.nil
      case ho18 => simp only [List.getElem?_toArray, List.getElem?_cons_succ, List.getElem?_cons_zero]; exact rfl
      go_simp
      refine (FU.out _).mono ?_
      rintro e wa ⟨rfl, rfl⟩
      refine hK.out _ _ HS (fun HS => ?_)
      clear hK K
      try simp only [Act.put, List.setIfInBounds_toArray, List.set_cons_zero, List.set_cons_succ]
      refine wpAnyH_take (i := 19) (oi := ?oi19) (v := ?v19) ?hi19 (by kernel_rfl) (by kernel_rfl) (by kernel_rfl) ?hQ19 ?hy19 HS ?rest19
      case hi19 => simp only [List.getElem?_toArray, List.getElem?_cons_succ, List.getElem?_cons_zero]; exact rfl
      case hQ19 => exact fun _ _ _ h => h
      case hy19 =>
        refine Or.inl ⟨by rfl, ?_⟩
        intro wS hSw
        go_simp
        try with_reducible rfl
      try simp only [Act.put, List.setIfInBounds_toArray, List.set_cons_zero, List.set_cons_succ]
      refine wpAnyH_take (i := 20) (oi := ?oi20) (v := ?v20) ?hi20 (by kernel_rfl) (by kernel_rfl) (by kernel_rfl) ?hQ20 ?hy20 HS ?rest20
      case hi20 => simp only [List.getElem?_toArray, List.getElem?_cons_succ, List.getElem?_cons_zero]; exact rfl
      case hQ20 => exact fun _ _ _ h => h
      case hy20 =>
        refine Or.inl ⟨by rfl, ?_⟩
        intro wS hSw
        go_simp
        try with_reducible rfl
      try simp only [Act.put, List.setIfInBounds_toArray, List.set_cons_zero, List.set_cons_succ]
      refine wpAnyH_take (i := 21) (oi := ?oi21) (v := ?v21) ?hi21 (by kernel_rfl) (by kernel_rfl) (by kernel_rfl) ?hQ21 ?hy21 HS ?rest21
      case hi21 => simp only [List.getElem?_toArray, List.getElem?_cons_succ, List.getElem?_cons_zero]; exact rfl
      case hQ21 => exact fun _ _ _ h => h
      case hy21 =>
        refine Or.inl ⟨by rfl, ?_⟩
        intro wS hSw
        go_simp
        try with_reducible rfl
      try simp only [Act.put, List.setIfInBounds_toArray, List.set_cons_zero, List.set_cons_succ]
      refine wpAnyH_take (i := 22) (oi := ?oi22) (v := ?v22) ?hi22 (by kernel_rfl) (by kernel_rfl) (by kernel_rfl) ?hQ22 ?hy22 HS ?rest22
      case hi22 => simp only [List.getElem?_toArray, List.getElem?_cons_succ, List.getElem?_cons_zero]; exact rfl
      case hQ22 => exact fun _ _ _ h => h
      case hy22 =>
        refine Or.inl ⟨by rfl, ?_⟩
        intro wS hSw
        go_simp
        try with_reducible rfl
      try simp only [Act.put, List.setIfInBounds_toArray, List.set_cons_zero, List.set_cons_succ]
      refine wpAnyH_ready (rs := [23]) (by kernel_rfl) (by simp) ?_
      refine AllReadyH.cons (o := ?o23) ?ho23 (fun K hK => ?step23) AllReadyH.nil
      case ho23 => simp only [List.getElem?_toArray, List.getElem?_cons_succ, List.getElem?_cons_zero]; exact rfl
      go_simp
      refine (BE.out _ (HD7.out.bel ((Below.refl _ _).drew))).mono ?_
      rintro e wc ⟨rfl, F9, -, hk9, -⟩
      refine hK.out _ _ ⟨HS.1.keep (fun k h1 h2 => hk9.block k (by simpa using h2) (HNF.out k h1)), HS.2.trans (hk9.below HF6.out (by simpa using HB7.out.size))⟩ (fun HS => ?_)
      clear hK K
      try simp only [Act.put, List.setIfInBounds_toArray, List.set_cons_zero, List.set_cons_succ]
      refine wpAnyH_take (i := 24) (oi := ?oi24) (v := ?v24) ?hi24 (by kernel_rfl) (by kernel_rfl) (by kernel_rfl) ?hQ24 ?hy24 HS ?rest24
      case hi24 => simp only [List.getElem?_toArray, List.getElem?_cons_succ, List.getElem?_cons_zero]; exact rfl
      case hQ24 => exact fun _ _ _ h => h
      case hy24 =>
        refine Or.inl ⟨by rfl, ?_⟩
        intro wS hSw
        go_simp
        try with_reducible rfl
      try simp only [Act.put, List.setIfInBounds_toArray, List.set_cons_zero, List.set_cons_succ]
      refine wpAnyH_take (i := 25) (oi := ?oi25) (v := ?v25) ?hi25 (by kernel_rfl) (by kernel_rfl) (by kernel_rfl) ?hQ25 ?hy25 HS ?rest25
      case hi25 => simp only [List.getElem?_toArray, List.getElem?_cons_succ, List.getElem?_cons_zero]; exact rfl
      case hQ25 => exact fun _ _ _ h => h
      case hy25 =>
        refine Or.inl ⟨by rfl, ?_⟩
        intro wS hSw
        go_simp
        try with_reducible rfl
      try simp only [Act.put, List.setIfInBounds_toArray, List.set_cons_zero, List.set_cons_succ]
      refine wpAnyH_take (i := 26) (oi := ?oi26) (v := ?v26) ?hi26 (by kernel_rfl) (by kernel_rfl) (by kernel_rfl) ?hQ26 ?hy26 HS ?rest26
      case hi26 => simp only [List.getElem?_toArray, List.getElem?_cons_succ, List.getElem?_cons_zero]; exact rfl
      case hQ26 => exact fun _ _ _ h => h
      case hy26 =>
        refine Or.inl ⟨by rfl, ?_⟩
        intro wS hSw
        go_simp
        try with_reducible rfl
      try simp only [Act.put, List.setIfInBounds_toArray, List.set_cons_zero, List.set_cons_succ]
      refine wpAnyH_done (by kernel_rfl) ?_ _
      have HB9 := hid HS.2
      clear HS
      go_wp2
      go_ret
      exact ⟨rfl, HB9.out⟩

theorem walkDeviceOff (a b : Int) (w : World) (wa : (Lit.int .u8 a).wf = true) (wb : (Lit.int .u64 b).wf = true) :
    Calls Try.prog 7 #[.int .u8 a, .int .u64 b] w fun e w' => e = .returned (.bool true) ∧ Below w.heap.size w w' := by
  have h1 := bounds_u8 wa
  have h2 := bounds_u64 wb
  exact off_core (a % 40).toNat (by omega) a b w (by omega) (by omega) (by omega) (by omega) (by omega)
end Go.Proofs.Ytdgcoipflenlgaa
