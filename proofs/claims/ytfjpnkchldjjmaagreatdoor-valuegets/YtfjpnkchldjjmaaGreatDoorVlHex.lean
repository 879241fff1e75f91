/- What value.toHex returns: two digits for each byte. -/
import Derived.Test.YtfjpnkchldjjmaaGreatDoorVlRow
import Derived.Test.YtfjpnkchldjjmaaGreatDoorVlW1
import Derived.Deep.RegionHeld
import Derived.Deep.AppendLies
namespace Go.Proofs.YtfjpnkchldjjmaaGreatDoor
open Go.RowKit

theorem meas1 {i n : Nat} (h : i < n) : n - (intOf (.int .i64 ((i : Int) + 1))).toNat < n - (intOf (.int .i64 (i : Int))).toNat := by simp only [intOf]; omega
set_option maxRecDepth 20000 in
set_option maxHeartbeats 2000000 in
theorem toHex_c (s : List UInt8) (hs : s.length ≤ 1000000) (w : World) :
    Calls Tryz.prog 62 #[.string (str s)] w fun e w' => e = .returned (.string (str (hex2 s))) ∧ Below w.heap.size w w' := by
  have hz2 : (str s).size = s.length := str_size s
  obtain ⟨ti, hti, hz0, hz1, hz2⟩ := info_parts Tryz.infoU8
  go_enter Tryz.func62, Tryz.ntmps62
  go_wp2_with (at_make; refine wpList_make_new _ rfl _ _ 22 rfl 5 (.int .u8 0) 1 Tryz.underlying22 Tryz.infoU8 rfl _ _ 0 (2 * s.length) rfl rfl rfl (by omega) (by omega) (by omega) (by omega) ?_)
  intro w1 hblk hgr hlt
  have hb1 : Below w.heap.size w w1 := grown_below hgr (Nat.le_refl _) (fun k h => by cases h)
  have HO := hid (own_made hblk.out (by unfold maxLen; omega))
  clear hblk hgr
  go_wp2_with fail
  go_loopw [11, 3] (fun iv o wr => ∃ (i c : Nat) (A : Option Addr), iv = .int .i64 (i : Int) ∧ o = .slice A (2 * i) c ∧ i ≤ s.length ∧ Below w.heap.size w wr ∧ Hid (wr.ownsRow w.heap.size 5 1 (.slice A (2 * i) c) (2 * i) (bs (hex2 (s.take i))))) (fun iv _ _ => s.length - (intOf iv).toNat)
  case atStart => exact ⟨0, _, _, rfl, rfl, by omega, hb1, HO⟩
  case round =>
    obtain ⟨i, c, A, rfl, rfl, hi, hbel, hown⟩ := hrel
    by_cases h : i < s.length
    · have d1 : decide (i < s.length) = true := by simpa using h
      obtain ⟨x, hx⟩ : ∃ x, s[i]? = some x := ⟨_, List.getElem?_eq_getElem h⟩
      have ix := vstr_at s i x hx .i64
      have hx8 := x.toNat_lt
      obtain ⟨q, hq⟩ : ∃ q, q = x.toNat / 16 := ⟨_, rfl⟩
      obtain ⟨r, hr⟩ : ∃ r, r = x.toNat % 16 := ⟨_, rfl⟩
      have e1 : (x.toNat : Int) / 16 = (q : Int) := by omega
      have e2 : bits .and .u8 (x.toNat : Int) 15 = (r : Int) := by rw [hr]; exact and15b x.toNat hx8
      have i1 := vidx16k q (by omega) .u8
      have i2 := vidx16k r (by omega) .u8
      have HS : Hid (hex2 (s.take (i + 1)) = hex2 (s.take i) ++ [hexd q, hexd r]) := hid (by
        obtain ⟨h1, h2⟩ := List.getElem?_eq_some_iff.1 hx
        rw [List.take_succ_eq_append_getElem h1, hex2_snoc, h2, ← hq, ← hr])
      have HI := hid h
      have hlit : ∀ j u, (bs [hexd q, hexd r])[j]? = some u → (wr.drew.alloc (.cells #[.int .u8 ((hexd q).toNat : Int), .int .u8 ((hexd r).toNat : Int)] 5)).cell? ((⟨wr.heap.size, 0, none⟩ : Addr).add j) = some u := fun j u hu => by
        rw [add_plain, Nat.zero_add]
        have h1 := Blk.cell (Blk.new wr.drew 5 (bs [hexd q, hexd r]).toArray) j
        exact h1.trans (by simpa using hu)
      have hsz : w.heap.size ≤ (wr.drew.alloc (.cells #[.int .u8 ((hexd q).toNat : Int), .int .u8 ((hexd r).toNat : Int)] 5)).heap.size := by
        have h1 := hbel.size
        show _ ≤ (wr.heap.push _).size
        simp
        omega
      clear hq hr hx hx8 h
      go_wp2_with fail
      refine wp_region_held_drew (S := fun _ => True) (by kernel_rfl) trivial (fun _ => ?_)
      refine wpAnyH_take (i := 0) (oi := ?oi0) (v := ?v0) ?hi0 (by kernel_rfl) (by kernel_rfl) (by kernel_rfl) ?hQ0 ?hy0 trivial ?rest0
      case hi0 => simp only [List.getElem?_toArray, List.getElem?_cons_zero]; exact rfl
      case hQ0 => exact fun _ _ _ h => h
      case hy0 =>
        refine Or.inl ⟨by rfl, ?_⟩
        intro wS _
        go_simp
        try with_reducible rfl
      try simp only [Act.put, List.setIfInBounds_toArray, List.set_cons_zero, List.set_cons_succ]
      refine wpAnyH_take (i := 1) (oi := ?oi1) (v := ?v1) ?hi1 (by kernel_rfl) (by kernel_rfl) (by kernel_rfl) ?hQ1 ?hy1 trivial ?rest1
      case hi1 => simp only [List.getElem?_toArray, List.getElem?_cons_succ, List.getElem?_cons_zero]; exact rfl
      case hQ1 => exact fun _ _ _ h => h
      case hy1 =>
        refine Or.inl ⟨by rfl, ?_⟩
        intro wS _
        go_simp
        try with_reducible rfl
      try simp only [Act.put, List.setIfInBounds_toArray, List.set_cons_zero, List.set_cons_succ]
      refine wpAnyH_take (i := 2) (oi := ?oi2) (v := ?v2) ?hi2 (by kernel_rfl) (by kernel_rfl) (by kernel_rfl) ?hQ2 ?hy2 trivial ?rest2
      case hi2 => simp only [List.getElem?_toArray, List.getElem?_cons_succ, List.getElem?_cons_zero]; exact rfl
      case hQ2 => exact fun _ _ _ h => h
      case hy2 =>
        refine Or.inl ⟨by rfl, ?_⟩
        intro wS _
        go_simp
        try with_reducible rfl
      try simp only [Act.put, List.setIfInBounds_toArray, List.set_cons_zero, List.set_cons_succ]
      refine wpAnyH_take (i := 3) (oi := ?oi3) (v := ?v3) ?hi3 (by kernel_rfl) (by kernel_rfl) (by kernel_rfl) ?hQ3 ?hy3 trivial ?rest3
      case hi3 => simp only [List.getElem?_toArray, List.getElem?_cons_succ, List.getElem?_cons_zero]; exact rfl
      case hQ3 => exact fun _ _ _ h => h
      case hy3 =>
        refine Or.inl ⟨by rfl, ?_⟩
        intro wS _
        go_simp
        try with_reducible rfl
      try simp only [Act.put, List.setIfInBounds_toArray, List.set_cons_zero, List.set_cons_succ]
      refine wpAnyH_take (i := 4) (oi := ?oi4) (v := ?v4) ?hi4 (by kernel_rfl) (by kernel_rfl) (by kernel_rfl) ?hQ4 ?hy4 trivial ?rest4
      case hi4 => simp only [List.getElem?_toArray, List.getElem?_cons_succ, List.getElem?_cons_zero]; exact rfl
      case hQ4 => exact fun _ _ _ h => h
      case hy4 =>
        refine Or.inl ⟨by rfl, ?_⟩
        intro wS _
        go_simp
        try with_reducible rfl
      try simp only [Act.put, List.setIfInBounds_toArray, List.set_cons_zero, List.set_cons_succ]
      refine wpAnyH_take (i := 5) (oi := ?oi5) (v := ?v5) ?hi5 (by kernel_rfl) (by kernel_rfl) (by kernel_rfl) ?hQ5 ?hy5 trivial ?rest5
      case hi5 => simp only [List.getElem?_toArray, List.getElem?_cons_succ, List.getElem?_cons_zero]; exact rfl
      case hQ5 => exact fun _ _ _ h => h
      case hy5 =>
        refine Or.inl ⟨by rfl, ?_⟩
        intro wS _
        go_simp
        try with_reducible rfl
      try simp only [Act.put, List.setIfInBounds_toArray, List.set_cons_zero, List.set_cons_succ]
      refine wpAnyH_take (i := 6) (oi := ?oi6) (v := ?v6) ?hi6 (by kernel_rfl) (by kernel_rfl) (by kernel_rfl) ?hQ6 ?hy6 trivial ?rest6
      case hi6 => simp only [List.getElem?_toArray, List.getElem?_cons_succ, List.getElem?_cons_zero]; exact rfl
      case hQ6 => exact fun _ _ _ h => h
      case hy6 =>
        refine Or.inl ⟨by rfl, ?_⟩
        intro wS _
        go_simp
        try with_reducible rfl
      try simp only [Act.put, List.setIfInBounds_toArray, List.set_cons_zero, List.set_cons_succ]
      refine wpAnyH_take (i := 7) (oi := ?oi7) (v := ?v7) ?hi7 (by kernel_rfl) (by kernel_rfl) (by kernel_rfl) ?hQ7 ?hy7 trivial ?rest7
      case hi7 => simp only [List.getElem?_toArray, List.getElem?_cons_succ, List.getElem?_cons_zero]; exact rfl
      case hQ7 => exact fun _ _ _ h => h
      case hy7 =>
        refine Or.inl ⟨by rfl, ?_⟩
        intro wS _
        go_simp
        try with_reducible rfl
      try simp only [Act.put, List.setIfInBounds_toArray, List.set_cons_zero, List.set_cons_succ]
      refine wpAnyH_take (i := 8) (oi := ?oi8) (v := ?v8) ?hi8 (by kernel_rfl) (by kernel_rfl) (by kernel_rfl) ?hQ8 ?hy8 trivial ?rest8
      case hi8 => simp only [List.getElem?_toArray, List.getElem?_cons_succ, List.getElem?_cons_zero]; exact rfl
      case hQ8 => exact fun _ _ _ h => h
      case hy8 =>
        refine Or.inl ⟨by rfl, ?_⟩
        intro wS _
        go_simp
        try with_reducible rfl
      try simp only [Act.put, List.setIfInBounds_toArray, List.set_cons_zero, List.set_cons_succ]
      refine wpAnyH_take (i := 9) (oi := ?oi9) (v := ?v9) ?hi9 (by kernel_rfl) (by kernel_rfl) (by kernel_rfl) ?hQ9 ?hy9 trivial ?rest9
      case hi9 => simp only [List.getElem?_toArray, List.getElem?_cons_succ, List.getElem?_cons_zero]; exact rfl
      case hQ9 => exact fun _ _ _ h => h
      case hy9 =>
        refine Or.inl ⟨by rfl, ?_⟩
        intro wS _
        go_simp
        try with_reducible rfl
      try simp only [Act.put, List.setIfInBounds_toArray, List.set_cons_zero, List.set_cons_succ]
      refine wpAnyH_take (i := 10) (oi := ?oi10) (v := ?v10) ?hi10 (by kernel_rfl) (by kernel_rfl) (by kernel_rfl) ?hQ10 ?hy10 trivial ?rest10
      case hi10 => simp only [List.getElem?_toArray, List.getElem?_cons_succ, List.getElem?_cons_zero]; exact rfl
      case hQ10 => exact fun _ _ _ h => h
      case hy10 =>
        refine Or.inl ⟨by rfl, ?_⟩
        intro wS _
        go_simp
        try with_reducible rfl
      try simp only [Act.put, List.setIfInBounds_toArray, List.set_cons_zero, List.set_cons_succ]
      refine wpAnyH_ready (rs := [11]) (by kernel_rfl) (by simp) ?_
      refine AllReadyH.cons (o := ?o11) ?ho11 (fun K hK => ?step11) AllReadyH.nil
      case ho11 => simp only [List.getElem?_toArray, List.getElem?_cons_succ, List.getElem?_cons_zero]; exact rfl
      go_simp
      refine hK.out _ _ trivial (fun _ => ?_)
      clear hK K
      try simp only [Act.put, List.setIfInBounds_toArray, List.set_cons_zero, List.set_cons_succ]
      refine wpAnyH_ready (rs := [12]) (by kernel_rfl) (by simp) ?_
      refine AllReadyH.cons (o := ?o12) ?ho12 (fun K hK => ?step12) AllReadyH.nil
      case ho12 => simp only [List.getElem?_toArray, List.getElem?_cons_succ, List.getElem?_cons_zero]; exact rfl
      refine step_append_lies _ rfl _ _ 22 rfl w.heap.size 5 ti (.int .u8 0) 1 1 Tryz.underlying22 hti hz0 hz1 hz2 rfl (by omega) _ (2 * i) _ rfl (World.ownsRow.alloc (w := wr.drew) hown.out _) ⟨wr.heap.size, 0, none⟩ 2 2 (bs [hexd q, hexd r]) rfl rfl ?hnews (bs_one _) (by omega) (by unfold maxLen; omega) (by omega) ?hbase _ rfl ?_
      case hnews => exact hlit
      case hbase => exact hsz
      intro g cap w2 hown2 hgr _ hlt2
      refine hK.out _ _ trivial (fun _ => ?_)
      clear hK K
      try simp only [Act.put, List.setIfInBounds_toArray, List.set_cons_zero, List.set_cons_succ]
      refine wpAnyH_ready (rs := [13]) (by kernel_rfl) (by simp) ?_
      refine AllReadyH.cons (o := ?o13) ?ho13 (fun K hK => ?step13) AllReadyH.nil
      case ho13 => simp only [List.getElem?_toArray, List.getElem?_cons_succ, List.getElem?_cons_zero]; exact rfl
      go_simp
      refine hK.out _ _ trivial (fun _ => ?_)
      clear hK K
      try simp only [Act.put, List.setIfInBounds_toArray, List.set_cons_zero, List.set_cons_succ]
      refine wpAnyH_done (by kernel_rfl) ?_ _
      clear hlit
      have hbel2 : Below w.heap.size w w2 := (hbel.drew.alloc (by have := hbel.size; exact this) _).grown hgr hsz (fun k hk => (hown.out.lt k hk).1)
      have hown3 : Hid (w2.ownsRow w.heap.size 5 1 (.slice (some ⟨g, 0, none⟩) (2 * (i + 1)) cap) (2 * (i + 1)) (bs (hex2 (s.take (i + 1))))) := hid (by rw [HS.out, bs_app]; exact hown2)
      clear hown2 hown hgr hsz
      go_wp2
      exact ⟨⟨i + 1, cap, _, by rfl, rfl, HI.out, hbel2, hown3⟩, meas1 HI.out⟩
    · have d1 : decide (i < s.length) = false := by simpa using h
      have hi2 : i = s.length := by omega
      have ht : s.take i = s := List.take_of_length_le (by omega)
      have hcv := run_str (P := Tryz.prog) (c := c) 22 9 5 Tryz.underlying22 Tryz.underlying5 Tryz.underlying9 (Bts.own hown.out)
      rw [ht] at hcv
      clear hown hi2 ht h
      go_wp2
      go_ret
      exact ⟨rfl, hbel⟩
end Go.Proofs.YtfjpnkchldjjmaaGreatDoor
