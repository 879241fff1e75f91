/- The walk of PackWrites: it answers true, whatever the input. -/
import Derived.Test.YtabdkhlpickjiaaPkRef
import Derived.Test.YtabdkhlpickjiaaFrame
import Derived.Deep.RegionHeld3
import Derived.Test.YtabdkhlpickjiaaUw
import Derived.BigQuiet
namespace Go.Proofs.Ytabdkhlpickjiaa
open Go.RowKit

theorem str_app (a b : List UInt8) : str a ++ str b = str (a ++ b) := ByteArray.mk_append_mk a b
theorem refNat_r (u hiz : Nat) (wr wx : World) (hlat : Below hiz wr wx) (hiw : hiz ≤ wr.heap.size) (hu : u < 18446744073709551616) :
    Calls Try.prog 12 #[.int .u64 (u : Int)] wx fun e w' => ∃ A n c, e = .returned (.slice A n c) ∧ (convert 22 9 (.slice A n c)).run Try.prog w' = .ok (.string (str (nat u))) w' ∧ Below hiz wr w' := by
  refine (refNatural_c u u wx (Nat.le_refl _) hu).mono ?_
  rintro e w' hrow
  obtain ⟨A, n, c, rfl, _, _, _, hbt, hb⟩ := hrow.out
  exact ⟨A, n, c, rfl, lit_str _ hbt rfl, hlat.trans (hb.mono (Nat.le_trans hiw hlat.size))⟩

set_option maxRecDepth 100000 in
set_option maxHeartbeats 60000000 in
theorem walkPackWrites (a0 : Option Addr) (n0 c0 : Nat) (z0 : List Int) (x : Int) (s : ByteArray) (w : World) (w0 : IsRow .u8 w a0 n0 c0 z0) (w1 : (Lit.int .i64 x).wf = true) (w2 : s.size ≤ maxLen) :
    Calls Try.prog 3 #[.slice a0 n0 c0, .int .i64 x, .string s] w fun e w' => e = .returned (.bool true) ∧ Below w.heap.size w w' := by
  obtain ⟨l, hl, hnc, hcm⟩ := argB w0
  obtain ⟨hx1, hx2⟩ := wf_i64 w1
  unfold maxLen at hcm w2
  clear w0 w1
  by_cases hbig : 2000 < n0 ∨ 2000 < s.size
  · have hd : decide ((2000 : Int) < if n0 < s.size then (s.size : Int) else (n0 : Int)) = true := by split <;> simp <;> omega
    go_enter Try.func3, Try.ntmps3
    go_wp2_with fail
    refine (first_c w).mono ?_
    rintro e w1 ⟨rfl, hb1⟩
    go_wp2
    all_goals go_ret
    all_goals exact ⟨rfl, hb1⟩
  · obtain ⟨M, hM, hm⟩ : ∃ M : Int, (if n0 < s.size then (s.size : Int) else (n0 : Int)) = M ∧ M ≤ 2000 := ⟨_, rfl, by split <;> omega⟩
    have hd : decide ((2000 : Int) < M) = false := by simp; omega
    have hle0 : n0 ≤ 2000 := by omega
    have hle1 : s.size ≤ 2000 := by omega
    clear hbig
    have e1 := uw_eq x
    have hu := uw_lt x
    generalize uw x = u at *
    go_enter Try.func3, Try.ntmps3
    go_wp2_with fail
    refine (first_c w).mono ?_
    rintro e w1 ⟨rfl, hb1⟩
    have z1 := hb1.size
    have hl1 : Bts w1 0 w.heap.size a0 n0 l := hl.below hb1 (Nat.le_refl _)
    have hown : (w1.alloc (.cells #[] 5)).ownsRow w1.heap.size 5 1 (.slice (some ⟨w1.heap.size, 0, none⟩) 0 0) 0 [] := World.ownsRow_lit w1 #[] 0 (Nat.le_refl _) (by decide) rfl
    have hl1' : Lst (w1.alloc (.cells #[] 5)) 0 w.heap.size a0 n0 (bs l) := (hl1.keep fun k _ h2 => Below.heap_alloc w1 _ k (by omega)).lst
    go_wp2_with (at_builtin; refine wpList_appL _ rfl _ _ 22 rfl w1.heap.size 5 (.int .u8 0) 1 Try.underlying22 Try.info5 rfl _ _ _ _ rfl hown _ _ _ _ _ _ rfl hl1' (bs_one _) (by omega) (by unfold maxLen; omega) (by simp) ?_)
    intro A2 c2 w2 hc2 hown2 _ hbB z2
    have hb2 : Below w.heap.size w w2 := hb1.trans (((Below.refl _ _).alloc z1 _).trans (hbB.mono z1))
    have hbt2 : Bts w2 0 w2.heap.size A2 n0 l := (Bts.own hown2).wide (Nat.zero_le _) (Nat.le_refl _)
    have hl2 : Bts w2 0 w.heap.size a0 n0 l := hl.below hb2 (Nat.le_refl _)
    clear hbB hl1' hown hl1 hM
    go_wp2_with fail
    refine (natural_c A2 n0 c2 u l w2 hbt2 (by omega) hu).mono ?_
    rintro e w3 hrow
    obtain ⟨A3, n3, c3, rfl, hn3, hc3, ho3, hbt3, hb3⟩ := hrow.out
    have z3 := hb3.size
    go_wp2_with fail
    refine (number_c A2 n0 c2 x l w3 ((hbt2.below hb3 (Nat.le_refl _)).wide (Nat.le_refl _) z3) (by omega) hx1 hx2).mono ?_
    rintro e w4 hrow
    obtain ⟨A4, n4, c4, rfl, hn4, hc4, ho4, hbt4, hb4⟩ := hrow.out
    have z4 := hb4.size
    have hb24 : Below w2.heap.size w2 w4 := hb3.trans (hb4.mono z3)
    go_wp2_with fail
    refine (text_c A2 n0 c2 s l w4 ((hbt2.below hb24 (Nat.le_refl _)).wide (Nat.le_refl _) (by omega)) (by omega) (by omega)).mono ?_
    rintro e w5 hrow
    obtain ⟨A5, n5, c5, rfl, hn5, hc5, ho5, hbt5, hb5⟩ := hrow.out
    have z5 := hb5.size
    have hb25 : Below w2.heap.size w2 w5 := hb24.trans (hb5.mono (by omega))
    have hbx : Bts w5 w2.heap.size w3.heap.size A3 n3 (l ++ nat u) := (hbt3.below hb4 (Nat.le_refl _)).below hb5 z4
    have hby : Bts w5 w2.heap.size w4.heap.size A4 n4 (l ++ nat (fold x)) := (hbt4.below hb5 (Nat.le_refl _)).wide z3 (Nat.le_refl _)
    have hbz : Bts w5 w2.heap.size w5.heap.size A5 n5 (l ++ nat s.size ++ s.data.toList) := hbt5.wide (by omega) (Nat.le_refl _)
    have hown5 : w5.ownsRow w1.heap.size 5 1 (.slice A2 n0 c2) n0 (bs l) := by
      refine ⟨hown2.1, ?_⟩
      rcases hown2.2 with h | ⟨g', cap, cur, hv, hb, hg, hr⟩
      · exact .inl h
      · exact .inr ⟨g', cap, cur, hv, hb, (hb25.block g' (Array.getElem?_eq_some_iff.1 hg).1).trans hg, hr⟩
    have hbw5 : Below w.heap.size w w5 := hb2.trans (hb25.mono (by omega))
    have hA2 : ∀ g', 0 < n0 → A2 = some ⟨g', 0, none⟩ → g' < w2.heap.size := by
      intro g' h0 h
      obtain ⟨g2, h2, _, h4, _⟩ := own_some hown2 h0
      rw [h] at h2
      injection h2 with h2
      injection h2 with h2
      omega
    have HA2 := hid hA2
    have hbx2 := hbx.wide (Nat.le_refl _) (show w3.heap.size ≤ w5.heap.size by omega)
    have hby2 := hby.wide (Nat.le_refl _) (show w4.heap.size ≤ w5.heap.size by omega)
    clear hA2 hown2 hb3 hb4 hb5 hb24 hb25 hbt2 hbt3 hbt4 hbt5 ho3 ho4 ho5 hbx hby
    obtain ⟨hiz, hhz⟩ : ∃ h, h = w5.heap.size := ⟨_, rfl⟩
    have hhz' : hiz ≤ w5.heap.size := by omega
    have hwz : w.heap.size ≤ hiz := by omega
    rw [← hhz] at hbx2 hby2 hbz
    clear hhz
    generalize w2.heap.size = lo at *
    go_wp2_with fail
    go_loopw [36] (fun i wr => ∃ (k : Nat) (l2 : List UInt8), k ≤ n0 ∧ i = .int .i64 (k : Int) ∧ l2.length = n0 ∧ wr.ownsRow w1.heap.size 5 1 (.slice A2 n0 c2) n0 (bs l2) ∧ Bts wr lo hiz A3 n3 (l ++ nat u) ∧ Bts wr lo hiz A4 n4 (l ++ nat (fold x)) ∧ Bts wr lo hiz A5 n5 (l ++ nat s.size ++ s.data.toList) ∧ Below w.heap.size w wr ∧ hiz ≤ wr.heap.size) (fun i _ => n0 - (intOf i).toNat)
    case atStart => exact ⟨0, l, Nat.zero_le _, rfl, hl.len, hown5, hbx2, hby2, hbz, hbw5, hhz'⟩
    case round =>
      clear hown5 hbx2 hby2 hbz hbw5 hb2
      obtain ⟨k, l2, hk, rfl, hl2, hown3, hbx, hby, hbz, hbw3, hiw⟩ := hrel
      by_cases hlt : k < n0
      · obtain ⟨g2, rfl, hg2, hg2z, hfr⟩ := own_some hown3 (by omega)
        have hg2lo := HA2.out g2 (by omega) rfl
        have hcell : wr.cell? ⟨g2, k, none⟩ = some (.int .u8 ((l2[k]'(by omega)).toNat : Int)) := by
          rw [hown3.cellAt k (by omega)]
          exact bs_get l2 k (by omega)
        have hf := hfr k
        have hst := fun u => own_store (k := k) hown3 u
        generalize l2[k]'(by omega) = bb at *
        have e2 := xor255 bb
        have Hst := hid hst
        have HL2 := hid hl2
        clear hst hl2 hfr
        go_wp2
        refine ⟨⟨k + 1, l2.set k (255 - bb), by omega, by go_num, by simpa using HL2.out, ?_, ?_, ?_, ?_, ?_, by simpa using hiw⟩, by simp [intOf]; omega⟩
        · rw [← bs_set]; exact Hst.out _
        · exact hbx.keep fun j h1 h2 => Below.heap_setCell wr _ _ j (by simp; omega)
        · exact hby.keep fun j h1 h2 => Below.heap_setCell wr _ _ j (by simp; omega)
        · simpa using (hbz.keep fun j h1 h2 => Below.heap_setCell wr _ _ j (by simp; omega))
        · exact hbw3.setCell (by simp; omega) _
      · clear hown3 hl2 HA2
        have hB : ∀ (T : List UInt8) (A : Option Addr) (n c : Nat), Bts wr lo hiz A n T → ∀ wx, Below hiz wr wx → (convert 22 9 (.slice A n c)).run Try.prog wx = .ok (.string (str T)) wx := fun T A n c hb wx hx => lit_str _ (hb.below hx (Nat.le_refl _)) rfl
        have hs0 : (convert 22 9 (.slice a0 n0 c0)).run Try.prog wr = .ok (.string (str l)) wr := lit_str _ (hl.below hbw3 (Nat.le_refl _)) rfl
        have hs1 := hB _ A3 n3 c3 hbx
        have hs2 := hB _ A4 n4 c4 hby
        have hs3 := hB _ A5 n5 c5 hbz
        have hll := hl.len
        have hu10 := nat_len_u64 hu
        have hf10 := nat_len_u64 (fold_lt hx1 hx2)
        have hs10 := nat_len_u64 (n := s.size) (by omega)
        have hfl := fold_lt hx1 hx2
        have k1 : ¬ 9223372036854775807 < (str l).size + (str (nat u)).size := by rw [str_size, str_size]; omega
        have k2 : ¬ 9223372036854775807 < (str l).size + (str (nat (fold x))).size := by rw [str_size, str_size]; omega
        have k3 : ¬ 9223372036854775807 < (str l).size + (str (nat s.size)).size := by rw [str_size, str_size]; omega
        have k4 : ¬ 9223372036854775807 < (str l).size + (str (nat s.size)).size + s.size := by rw [str_size, str_size]; omega
        have q1 : ((str (l ++ nat u)).toList == (str l ++ str (nat u)).toList) = true := by rw [str_app]; simp
        have q2 : ((str (l ++ nat (fold x))).toList == (str l ++ str (nat (fold x))).toList) = true := by rw [str_app]; simp
        have q3 : ((str (l ++ nat s.size ++ s.data.toList)).toList == (str l ++ str (nat s.size) ++ s).toList) = true := by
          have : str (l ++ nat s.size ++ s.data.toList) = str l ++ str (nat s.size) ++ s := by rw [str_app, ← str_of s, str_app]; simp [str_data]
          rw [this]; simp
        obtain ⟨T1, hT1⟩ : ∃ T, T = l ++ nat u := ⟨_, rfl⟩
        obtain ⟨T2, hT2⟩ : ∃ T, T = l ++ nat (fold x) := ⟨_, rfl⟩
        obtain ⟨T3, hT3⟩ : ∃ T, T = l ++ nat s.size ++ s.data.toList := ⟨_, rfl⟩
        have hs3' : ∀ wx, Below hiz wr wx → (convert 22 9 (.slice A5 n5 c5)).run Try.prog wx = .ok (.string (str T3)) wx := by rw [hT3]; simpa using hs3
        rw [← hT1] at hs1 q1
        rw [← hT2] at hs2 q2
        rw [← hT3] at q3
        clear hT1 hT2 hT3 hs3 hll hbx hby hbz hu10 hf10 hs10
        have hrr : Below hiz wr wr.drew := (Below.refl hiz wr).drew
        clear hB
        go_wp2_with fail
        have HBW := hid hbw3
        have e5 : IntKind.u64.wrap (s.size : Int) = (s.size : Int) := IntWalk.u64_in _ (by omega)
        have e6 : (s.size : Int) % 18446744073709551616 = (s.size : Int) := by omega
        clear hs0 hbw3 hl hl2 hlt hk hnc hcm hd hm
        refine wp_region_held_drew (S := fun w' => Below hiz wr w') (by kernel_rfl) hrr (fun hHeld => ?_)
        refine wpAnyH_take (i := 0) (oi := ?oi0) (v := ?v0) ?hi0 (by kernel_rfl) (by kernel_rfl) (by kernel_rfl) ?hQ0 ?hy0 (by assumption) ?rest0
        case hi0 => simp only [List.getElem?_toArray, List.getElem?_cons_zero]; exact rfl
        case hQ0 => exact fun _ _ _ h => h
        case hy0 =>
          refine Or.inl ⟨by rfl, ?_⟩
          intro w hSw
          go_simp
          try with_reducible rfl
        try simp only [Act.put, List.setIfInBounds_toArray, List.set_cons_zero, List.set_cons_succ]
        refine wpAnyH_take (i := 1) (oi := ?oi1) (v := ?v1) ?hi1 (by kernel_rfl) (by kernel_rfl) (by kernel_rfl) ?hQ1 ?hy1 (by assumption) ?rest1
        case hi1 => simp only [List.getElem?_toArray, List.getElem?_cons_succ, List.getElem?_cons_zero]; exact rfl
        case hQ1 => exact fun _ _ _ h => h
        case hy1 =>
          refine Or.inl ⟨by rfl, ?_⟩
          intro w hSw
          go_simp
          try with_reducible rfl
        try simp only [Act.put, List.setIfInBounds_toArray, List.set_cons_zero, List.set_cons_succ]
        refine wpAnyH_take (i := 2) (oi := ?oi2) (v := ?v2) ?hi2 (by kernel_rfl) (by kernel_rfl) (by kernel_rfl) ?hQ2 ?hy2 (by assumption) ?rest2
        case hi2 => simp only [List.getElem?_toArray, List.getElem?_cons_succ, List.getElem?_cons_zero]; exact rfl
        case hQ2 => exact fun _ _ _ h => h
        case hy2 =>
          refine Or.inl ⟨by rfl, ?_⟩
          intro w hSw
          go_simp
          try with_reducible rfl
        try simp only [Act.put, List.setIfInBounds_toArray, List.set_cons_zero, List.set_cons_succ]
        refine wpAnyH_take (i := 3) (oi := ?oi3) (v := ?v3) ?hi3 (by kernel_rfl) (by kernel_rfl) (by kernel_rfl) ?hQ3 ?hy3 (by assumption) ?rest3
        case hi3 => simp only [List.getElem?_toArray, List.getElem?_cons_succ, List.getElem?_cons_zero]; exact rfl
        case hQ3 => exact fun _ _ _ h => h
        case hy3 =>
          refine Or.inl ⟨by rfl, ?_⟩
          intro w hSw
          go_simp
          try with_reducible rfl
        try simp only [Act.put, List.setIfInBounds_toArray, List.set_cons_zero, List.set_cons_succ]
        refine wpAnyH_take (i := 4) (oi := ?oi4) (v := ?v4) ?hi4 (by kernel_rfl) (by kernel_rfl) (by kernel_rfl) ?hQ4 ?hy4 (by assumption) ?rest4
        case hi4 => simp only [List.getElem?_toArray, List.getElem?_cons_succ, List.getElem?_cons_zero]; exact rfl
        case hQ4 => exact fun _ _ _ h => h
        case hy4 =>
          refine Or.inl ⟨by rfl, ?_⟩
          intro w hSw
          go_simp
          try with_reducible rfl
        try simp only [Act.put, List.setIfInBounds_toArray, List.set_cons_zero, List.set_cons_succ]
        refine wpAnyH_ready (rs := [5]) (by kernel_rfl) (by simp) ?_
        refine AllReadyH.cons (o := ?o5) ?ho5 (fun K hK => ?step5) AllReadyH.nil
        case ho5 => simp only [List.getElem?_toArray, List.getElem?_cons_succ, List.getElem?_cons_zero]; exact rfl
        go_simp
        refine (refNat_r _ _ wr _ (by assumption) hiw (by omega)).mono ?_
        rintro e w105 ⟨A105', n105', c105', rfl, hsr105, hlat105⟩
        refine hK.out _ _ (by assumption) (fun hHeld => ?_)
        clear hK K
        try simp only [Act.put, List.setIfInBounds_toArray, List.set_cons_zero, List.set_cons_succ]
        refine wpAnyH_ready (rs := [6]) (by kernel_rfl) (by simp) ?_
        refine AllReadyH.cons (o := ?o6) ?ho6 (fun K hK => ?step6) AllReadyH.nil
        case ho6 => simp only [List.getElem?_toArray, List.getElem?_cons_succ, List.getElem?_cons_zero]; exact rfl
        go_simp
        refine hK.out _ _ (by assumption) (fun hHeld => ?_)
        clear hK K
        try simp only [Act.put, List.setIfInBounds_toArray, List.set_cons_zero, List.set_cons_succ]
        refine wpAnyH_take (i := 7) (oi := ?oi7) (v := ?v7) ?hi7 (by kernel_rfl) (by kernel_rfl) (by kernel_rfl) ?hQ7 ?hy7 (by assumption) ?rest7
        case hi7 => simp only [List.getElem?_toArray, List.getElem?_cons_succ, List.getElem?_cons_zero]; exact rfl
        case hQ7 => exact fun _ _ _ h => h
        case hy7 =>
          refine Or.inl ⟨by rfl, ?_⟩
          intro w hSw
          go_simp
          try with_reducible rfl
        try simp only [Act.put, List.setIfInBounds_toArray, List.set_cons_zero, List.set_cons_succ]
        refine wpAnyH_take (i := 8) (oi := ?oi8) (v := ?v8) ?hi8 (by kernel_rfl) (by kernel_rfl) (by kernel_rfl) ?hQ8 ?hy8 (by assumption) ?rest8
        case hi8 => simp only [List.getElem?_toArray, List.getElem?_cons_succ, List.getElem?_cons_zero]; exact rfl
        case hQ8 => exact fun _ _ _ h => h
        case hy8 =>
          refine Or.inl ⟨by rfl, ?_⟩
          intro w hSw
          go_simp
          try with_reducible rfl
        try simp only [Act.put, List.setIfInBounds_toArray, List.set_cons_zero, List.set_cons_succ]
        refine wpAnyH_take (i := 9) (oi := ?oi9) (v := ?v9) ?hi9 (by kernel_rfl) (by kernel_rfl) (by kernel_rfl) ?hQ9 ?hy9 (by assumption) ?rest9
        case hi9 => simp only [List.getElem?_toArray, List.getElem?_cons_succ, List.getElem?_cons_zero]; exact rfl
        case hQ9 => exact fun _ _ _ h => h
        case hy9 =>
          refine Or.inl ⟨by rfl, ?_⟩
          intro w hSw
          go_simp
          try with_reducible rfl
        try simp only [Act.put, List.setIfInBounds_toArray, List.set_cons_zero, List.set_cons_succ]
        refine wpAnyH_take (i := 10) (oi := ?oi10) (v := ?v10) ?hi10 (by kernel_rfl) (by kernel_rfl) (by kernel_rfl) ?hQ10 ?hy10 (by assumption) ?rest10
        case hi10 => simp only [List.getElem?_toArray, List.getElem?_cons_succ, List.getElem?_cons_zero]; exact rfl
        case hQ10 => exact fun _ _ _ h => h
        case hy10 =>
          refine Or.inl ⟨by rfl, ?_⟩
          intro w hSw
          go_simp
          try with_reducible rfl
        try simp only [Act.put, List.setIfInBounds_toArray, List.set_cons_zero, List.set_cons_succ]
        refine wpAnyH_take (i := 11) (oi := ?oi11) (v := ?v11) ?hi11 (by kernel_rfl) (by kernel_rfl) (by kernel_rfl) ?hQ11 ?hy11 (by assumption) ?rest11
        case hi11 => simp only [List.getElem?_toArray, List.getElem?_cons_succ, List.getElem?_cons_zero]; exact rfl
        case hQ11 => exact fun _ _ _ h => h
        case hy11 =>
          refine Or.inl ⟨by rfl, ?_⟩
          intro w hSw
          go_simp
          try with_reducible rfl
        try simp only [Act.put, List.setIfInBounds_toArray, List.set_cons_zero, List.set_cons_succ]
        refine wpAnyH_take (i := 12) (oi := ?oi12) (v := ?v12) ?hi12 (by kernel_rfl) (by kernel_rfl) (by kernel_rfl) ?hQ12 ?hy12 (by assumption) ?rest12
        case hi12 => simp only [List.getElem?_toArray, List.getElem?_cons_succ, List.getElem?_cons_zero]; exact rfl
        case hQ12 => exact fun _ _ _ h => h
        case hy12 =>
          refine Or.inl ⟨by rfl, ?_⟩
          intro w hSw
          go_simp
          try with_reducible rfl
        try simp only [Act.put, List.setIfInBounds_toArray, List.set_cons_zero, List.set_cons_succ]
        refine wpAnyH_take (i := 13) (oi := ?oi13) (v := ?v13) ?hi13 (by kernel_rfl) (by kernel_rfl) (by kernel_rfl) ?hQ13 ?hy13 (by assumption) ?rest13
        case hi13 => simp only [List.getElem?_toArray, List.getElem?_cons_succ, List.getElem?_cons_zero]; exact rfl
        case hQ13 => exact fun _ _ _ h => h
        case hy13 =>
          refine Or.inl ⟨by rfl, ?_⟩
          intro w hSw
          go_simp
          try with_reducible rfl
        try simp only [Act.put, List.setIfInBounds_toArray, List.set_cons_zero, List.set_cons_succ]
        refine wpAnyH_ready (rs := [14]) (by kernel_rfl) (by simp) ?_
        refine AllReadyH.cons (o := ?o14) ?ho14 (fun K hK => ?step14) AllReadyH.nil
        case ho14 => simp only [List.getElem?_toArray, List.getElem?_cons_succ, List.getElem?_cons_zero]; exact rfl
        go_simp
        refine (refFolded_c x _ hx1 hx2).mono ?_
        rintro e w114 ⟨rfl, rfl⟩
        refine hK.out _ _ (by assumption) (fun hHeld => ?_)
        clear hK K
        try simp only [Act.put, List.setIfInBounds_toArray, List.set_cons_zero, List.set_cons_succ]
        refine wpAnyH_ready (rs := [15]) (by kernel_rfl) (by simp) ?_
        refine AllReadyH.cons (o := ?o15) ?ho15 (fun K hK => ?step15) AllReadyH.nil
        case ho15 => simp only [List.getElem?_toArray, List.getElem?_cons_succ, List.getElem?_cons_zero]; exact rfl
        go_simp
        refine (refNat_r _ _ wr _ (by assumption) hiw (by omega)).mono ?_
        rintro e w115 ⟨A115', n115', c115', rfl, hsr115, hlat115⟩
        refine hK.out _ _ (by assumption) (fun hHeld => ?_)
        clear hK K
        try simp only [Act.put, List.setIfInBounds_toArray, List.set_cons_zero, List.set_cons_succ]
        refine wpAnyH_ready (rs := [16]) (by kernel_rfl) (by simp) ?_
        refine AllReadyH.cons (o := ?o16) ?ho16 (fun K hK => ?step16) AllReadyH.nil
        case ho16 => simp only [List.getElem?_toArray, List.getElem?_cons_succ, List.getElem?_cons_zero]; exact rfl
        go_simp
        refine hK.out _ _ (by assumption) (fun hHeld => ?_)
        clear hK K
        try simp only [Act.put, List.setIfInBounds_toArray, List.set_cons_zero, List.set_cons_succ]
        refine wpAnyH_take (i := 17) (oi := ?oi17) (v := ?v17) ?hi17 (by kernel_rfl) (by kernel_rfl) (by kernel_rfl) ?hQ17 ?hy17 (by assumption) ?rest17
        case hi17 => simp only [List.getElem?_toArray, List.getElem?_cons_succ, List.getElem?_cons_zero]; exact rfl
        case hQ17 => exact fun _ _ _ h => h
        case hy17 =>
          refine Or.inl ⟨by rfl, ?_⟩
          intro w hSw
          go_simp
          try with_reducible rfl
        try simp only [Act.put, List.setIfInBounds_toArray, List.set_cons_zero, List.set_cons_succ]
        refine wpAnyH_take (i := 18) (oi := ?oi18) (v := ?v18) ?hi18 (by kernel_rfl) (by kernel_rfl) (by kernel_rfl) ?hQ18 ?hy18 (by assumption) ?rest18
        case hi18 => simp only [List.getElem?_toArray, List.getElem?_cons_succ, List.getElem?_cons_zero]; exact rfl
        case hQ18 => exact fun _ _ _ h => h
        case hy18 =>
          refine Or.inl ⟨by rfl, ?_⟩
          intro w hSw
          go_simp
          try with_reducible rfl
        try simp only [Act.put, List.setIfInBounds_toArray, List.set_cons_zero, List.set_cons_succ]
        refine wpAnyH_take (i := 19) (oi := ?oi19) (v := ?v19) ?hi19 (by kernel_rfl) (by kernel_rfl) (by kernel_rfl) ?hQ19 ?hy19 (by assumption) ?rest19
        case hi19 => simp only [List.getElem?_toArray, List.getElem?_cons_succ, List.getElem?_cons_zero]; exact rfl
        case hQ19 => exact fun _ _ _ h => h
        case hy19 =>
          refine Or.inl ⟨by rfl, ?_⟩
          intro w hSw
          go_simp
          try with_reducible rfl
        try simp only [Act.put, List.setIfInBounds_toArray, List.set_cons_zero, List.set_cons_succ]
        refine wpAnyH_take (i := 20) (oi := ?oi20) (v := ?v20) ?hi20 (by kernel_rfl) (by kernel_rfl) (by kernel_rfl) ?hQ20 ?hy20 (by assumption) ?rest20
        case hi20 => simp only [List.getElem?_toArray, List.getElem?_cons_succ, List.getElem?_cons_zero]; exact rfl
        case hQ20 => exact fun _ _ _ h => h
        case hy20 =>
          refine Or.inl ⟨by rfl, ?_⟩
          intro w hSw
          go_simp
          try with_reducible rfl
        try simp only [Act.put, List.setIfInBounds_toArray, List.set_cons_zero, List.set_cons_succ]
        refine wpAnyH_take (i := 21) (oi := ?oi21) (v := ?v21) ?hi21 (by kernel_rfl) (by kernel_rfl) (by kernel_rfl) ?hQ21 ?hy21 (by assumption) ?rest21
        case hi21 => simp only [List.getElem?_toArray, List.getElem?_cons_succ, List.getElem?_cons_zero]; exact rfl
        case hQ21 => exact fun _ _ _ h => h
        case hy21 =>
          refine Or.inl ⟨by rfl, ?_⟩
          intro w hSw
          go_simp
          try with_reducible rfl
        try simp only [Act.put, List.setIfInBounds_toArray, List.set_cons_zero, List.set_cons_succ]
        refine wpAnyH_take (i := 22) (oi := ?oi22) (v := ?v22) ?hi22 (by kernel_rfl) (by kernel_rfl) (by kernel_rfl) ?hQ22 ?hy22 (by assumption) ?rest22
        case hi22 => simp only [List.getElem?_toArray, List.getElem?_cons_succ, List.getElem?_cons_zero]; exact rfl
        case hQ22 => exact fun _ _ _ h => h
        case hy22 =>
          refine Or.inl ⟨by rfl, ?_⟩
          intro w hSw
          go_simp
          try with_reducible rfl
        try simp only [Act.put, List.setIfInBounds_toArray, List.set_cons_zero, List.set_cons_succ]
        refine wpAnyH_take (i := 23) (oi := ?oi23) (v := ?v23) ?hi23 (by kernel_rfl) (by kernel_rfl) (by kernel_rfl) ?hQ23 ?hy23 (by assumption) ?rest23
        case hi23 => simp only [List.getElem?_toArray, List.getElem?_cons_succ, List.getElem?_cons_zero]; exact rfl
        case hQ23 => exact fun _ _ _ h => h
        case hy23 =>
          refine Or.inl ⟨by rfl, ?_⟩
          intro w hSw
          go_simp
          try with_reducible rfl
        try simp only [Act.put, List.setIfInBounds_toArray, List.set_cons_zero, List.set_cons_succ]
        refine wpAnyH_take (i := 24) (oi := ?oi24) (v := ?v24) ?hi24 (by kernel_rfl) (by kernel_rfl) (by kernel_rfl) ?hQ24 ?hy24 (by assumption) ?rest24
        case hi24 => simp only [List.getElem?_toArray, List.getElem?_cons_succ, List.getElem?_cons_zero]; exact rfl
        case hQ24 => exact fun _ _ _ h => h
        case hy24 =>
          refine Or.inl ⟨by rfl, ?_⟩
          intro w hSw
          go_simp
          try with_reducible rfl
        try simp only [Act.put, List.setIfInBounds_toArray, List.set_cons_zero, List.set_cons_succ]
        refine wpAnyH_take (i := 25) (oi := ?oi25) (v := ?v25) ?hi25 (by kernel_rfl) (by kernel_rfl) (by kernel_rfl) ?hQ25 ?hy25 (by assumption) ?rest25
        case hi25 => simp only [List.getElem?_toArray, List.getElem?_cons_succ, List.getElem?_cons_zero]; exact rfl
        case hQ25 => exact fun _ _ _ h => h
        case hy25 =>
          refine Or.inl ⟨by rfl, ?_⟩
          intro w hSw
          go_simp
          try with_reducible rfl
        try simp only [Act.put, List.setIfInBounds_toArray, List.set_cons_zero, List.set_cons_succ]
        refine wpAnyH_take (i := 26) (oi := ?oi26) (v := ?v26) ?hi26 (by kernel_rfl) (by kernel_rfl) (by kernel_rfl) ?hQ26 ?hy26 (by assumption) ?rest26
        case hi26 => simp only [List.getElem?_toArray, List.getElem?_cons_succ, List.getElem?_cons_zero]; exact rfl
        case hQ26 => exact fun _ _ _ h => h
        case hy26 =>
          refine Or.inl ⟨by rfl, ?_⟩
          intro w hSw
          go_simp
          try with_reducible rfl
        try simp only [Act.put, List.setIfInBounds_toArray, List.set_cons_zero, List.set_cons_succ]
        refine wpAnyH_take (i := 30) (oi := ?oi30) (v := ?v30) ?hi30 (by kernel_rfl) (by kernel_rfl) (by kernel_rfl) ?hQ30 ?hy30 (by assumption) ?rest30
        case hi30 => simp only [List.getElem?_toArray, List.getElem?_cons_succ, List.getElem?_cons_zero]; exact rfl
        case hQ30 => exact fun _ _ _ h => h
        case hy30 =>
          refine Or.inl ⟨by rfl, ?_⟩
          intro w hSw
          go_simp
          try with_reducible rfl
        try simp only [Act.put, List.setIfInBounds_toArray, List.set_cons_zero, List.set_cons_succ]
        refine wpAnyH_ready (rs := [27]) (by kernel_rfl) (by simp) ?_
        refine AllReadyH.cons (o := ?o27) ?ho27 (fun K hK => ?step27) AllReadyH.nil
        case ho27 => simp only [List.getElem?_toArray, List.getElem?_cons_succ, List.getElem?_cons_zero]; exact rfl
        go_simp
        refine (refNat_r _ _ wr _ (by assumption) hiw (by omega)).mono ?_
        rintro e w127 ⟨A127', n127', c127', rfl, hsr127, hlat127⟩
        refine hK.out _ _ (by assumption) (fun hHeld => ?_)
        clear hK K
        try simp only [Act.put, List.setIfInBounds_toArray, List.set_cons_zero, List.set_cons_succ]
        refine wpAnyH_ready (rs := [28]) (by kernel_rfl) (by simp) ?_
        refine AllReadyH.cons (o := ?o28) ?ho28 (fun K hK => ?step28) AllReadyH.nil
        case ho28 => simp only [List.getElem?_toArray, List.getElem?_cons_succ, List.getElem?_cons_zero]; exact rfl
        go_simp
        refine hK.out _ _ (by assumption) (fun hHeld => ?_)
        clear hK K
        try simp only [Act.put, List.setIfInBounds_toArray, List.set_cons_zero, List.set_cons_succ]
        refine wpAnyH_take (i := 29) (oi := ?oi29) (v := ?v29) ?hi29 (by kernel_rfl) (by kernel_rfl) (by kernel_rfl) ?hQ29 ?hy29 (by assumption) ?rest29
        case hi29 => simp only [List.getElem?_toArray, List.getElem?_cons_succ, List.getElem?_cons_zero]; exact rfl
        case hQ29 => exact fun _ _ _ h => h
        case hy29 =>
          refine Or.inl ⟨by rfl, ?_⟩
          intro w hSw
          go_simp
          try with_reducible rfl
        try simp only [Act.put, List.setIfInBounds_toArray, List.set_cons_zero, List.set_cons_succ]
        refine wpAnyH_take (i := 31) (oi := ?oi31) (v := ?v31) ?hi31 (by kernel_rfl) (by kernel_rfl) (by kernel_rfl) ?hQ31 ?hy31 (by assumption) ?rest31
        case hi31 => simp only [List.getElem?_toArray, List.getElem?_cons_succ, List.getElem?_cons_zero]; exact rfl
        case hQ31 => exact fun _ _ _ h => h
        case hy31 =>
          refine Or.inl ⟨by rfl, ?_⟩
          intro w hSw
          go_simp
          try with_reducible rfl
        try simp only [Act.put, List.setIfInBounds_toArray, List.set_cons_zero, List.set_cons_succ]
        refine wpAnyH_take (i := 32) (oi := ?oi32) (v := ?v32) ?hi32 (by kernel_rfl) (by kernel_rfl) (by kernel_rfl) ?hQ32 ?hy32 (by assumption) ?rest32
        case hi32 => simp only [List.getElem?_toArray, List.getElem?_cons_succ, List.getElem?_cons_zero]; exact rfl
        case hQ32 => exact fun _ _ _ h => h
        case hy32 =>
          refine Or.inl ⟨by rfl, ?_⟩
          intro w hSw
          go_simp
          try with_reducible rfl
        try simp only [Act.put, List.setIfInBounds_toArray, List.set_cons_zero, List.set_cons_succ]
        refine wpAnyH_take (i := 33) (oi := ?oi33) (v := ?v33) ?hi33 (by kernel_rfl) (by kernel_rfl) (by kernel_rfl) ?hQ33 ?hy33 (by assumption) ?rest33
        case hi33 => simp only [List.getElem?_toArray, List.getElem?_cons_succ, List.getElem?_cons_zero]; exact rfl
        case hQ33 => exact fun _ _ _ h => h
        case hy33 =>
          refine Or.inl ⟨by rfl, ?_⟩
          intro w hSw
          go_simp
          try with_reducible rfl
        try simp only [Act.put, List.setIfInBounds_toArray, List.set_cons_zero, List.set_cons_succ]
        refine wpAnyH_take (i := 34) (oi := ?oi34) (v := ?v34) ?hi34 (by kernel_rfl) (by kernel_rfl) (by kernel_rfl) ?hQ34 ?hy34 (by assumption) ?rest34
        case hi34 => simp only [List.getElem?_toArray, List.getElem?_cons_succ, List.getElem?_cons_zero]; exact rfl
        case hQ34 => exact fun _ _ _ h => h
        case hy34 =>
          refine Or.inl ⟨by rfl, ?_⟩
          intro w hSw
          go_simp
          try with_reducible rfl
        try simp only [Act.put, List.setIfInBounds_toArray, List.set_cons_zero, List.set_cons_succ]
        refine wpAnyH_done (by kernel_rfl) ?_ _
        go_wp2
        go_ret
        exact ⟨rfl, HBW.out.trans (hlat127.mono hwz)⟩
end Go.Proofs.Ytabdkhlpickjiaa
