/- The walk of ValueGets: for all bytes the law answers true. -/
import Derived.Test.YtfjpnkchldjjmaaGreatDoorVlGetR
import Derived.Test.YtfjpnkchldjjmaaGreatDoorVlEq
import Derived.Test.YtfjpnkchldjjmaaGreatDoorVlFirst
namespace Go.Proofs.YtfjpnkchldjjmaaGreatDoor
open Go.RowKit

theorem vGet_len {l : List UInt8} {v : Vl} {k : Nat} (h : vGet l = some (v, k)) : 1 ≤ k ∧ k ≤ l.length := by
  cases l with
  | nil => cases h
  | cons b r =>
    have hrd := rd_le r
    rw [List.length_cons]
    by_cases b0 : b.toNat = 0
    · rw [vg_0 b0] at h
      injection h with h; injection h with _ h; omega
    by_cases b1 : b.toNat = 1
    · by_cases hz : (rd r).2 = 0
      · rw [vg_1n b1 hz] at h; cases h
      · rw [vg_1s b1 (by omega)] at h
        injection h with h; injection h with _ h; omega
    by_cases b2 : b.toNat = 2
    · cases r with
      | nil => rw [vg_2n b2] at h; cases h
      | cons c r =>
        by_cases hc : c.toNat ≤ 1
        · rw [vg_2t b2 hc] at h
          injection h with h; injection h with _ h; rw [List.length_cons]; omega
        · rw [vg_2f b2 hc] at h; cases h
    by_cases b3 : b.toNat = 3
    · by_cases hz : (rd r).2 = 0 ∨ 64 < (rd r).1 ∨ r.length - (rd r).2 < (rd r).1
      · rw [vg_3n b3 hz] at h; cases h
      · rw [vg_3s b3 hz] at h
        injection h with h; injection h with _ h; omega
    by_cases b4 : b.toNat = 4
    · by_cases hz : r.length < 8
      · rw [vg_4n b4 hz] at h; cases h
      · by_cases hc : fCanon (unle (r.take 8)) = unle (r.take 8)
        · rw [vg_4t b4 (by omega) hc] at h
          injection h with h; injection h with _ h; omega
        · rw [vg_4f b4 (by omega) hc] at h; cases h
    · rw [vg_x (by omega)] at h; cases h
theorem eq_same (a : Vl) (wx : World) : (Op.equalIn 10000 26 (.agg #[.int .i64 (vk a), .int .i64 (vn a), .string (str (vs a)), .int .u64 ((vf a : Nat) : Int)]) (.agg #[.int .i64 (vk a), .int .i64 (vn a), .string (str (vs a)), .int .u64 ((vf a : Nat) : Int)])).run Tryz.prog wx = .ok true wx := by rw [eq_val, decide_eq_true rfl]

theorem gets_long (A : Option Addr) (n c : Nat) (w : World) (h : 1000 < n) (hw : Lw w) :
    Calls Tryz.prog 4 #[.slice A n c] w fun e w' => e = .returned (.bool true) ∧ Below w.heap.size w w' := by
  have HW := hid hw
  have e1 : decide ((1000 : Int) < (n : Int)) = true := by simp; omega
  clear h hw
  go_enter Tryz.func4, Tryz.ntmps4
  go_wp2_with fail
  refine (first_c _ HW.out).mono ?_
  rintro e w1 ⟨rfl, hb1⟩
  have HB1 := hid hb1
  clear hb1
  go_wp2
  go_ret
  exact ⟨rfl, HB1.out⟩

set_option maxRecDepth 20000 in
set_option maxHeartbeats 8000000 in
theorem gets_core (A : Option Addr) (n c : Nat) (l : List UInt8) (w : World) (hc : n ≤ c) (hr : Bts w 0 w.heap.size A n l) (hn : n ≤ 1000) (hw : Lw w) :
    Calls Tryz.prog 4 #[.slice A n c] w fun e w' => e = .returned (.bool true) ∧ Below w.heap.size w w' := by
  have HW := hid hw
  have HR := hid hr
  have HC := hid hc
  have HN := hid hn
  have e1 : decide ((1000 : Int) < (n : Int)) = false := by simp; omega
  clear hw hr hc hn
  go_enter Tryz.func4, Tryz.ntmps4
  go_wp2_with fail
  refine (first_c _ HW.out).mono ?_
  rintro e w1 ⟨rfl, hb1⟩
  have HB1 := hid hb1
  clear hb1
  go_wp2_with fail
  refine (open_c A n c l w1 ((HR.out.below HB1.out (Nat.le_refl _)).wide (Nat.le_refl _) HB1.out.size) (by have := HN.out; omega)).mono ?_
  rintro e w2 ⟨g, rfl, hrd, hgs, hb2⟩
  have HB2 : Hid (Below w.heap.size w w2) := hid (HB1.out.trans (hb2.mono HB1.out.size))
  have HRD := hid hrd
  have HGL : Hid (w.heap.size ≤ g) := hid (by obtain ⟨_, _, _, _, _, h1, _⟩ := hrd; have := HB1.out.size; omega)
  have HBT : Hid (Bts w2 0 w.heap.size A n l) := hid (HR.out.below HB2.out (Nat.le_refl _))
  generalize w1.heap.size = lo at *
  clear hrd hgs hb2 HB1 HR e1
  go_wp2_with fail
  go_loopg [4] l.length (fun kk sv wr => ∃ (A' : Option Addr) (n' c' : Nat) (l' : List UInt8), sv = .slice A' n' c' ∧ Hid (kk = l'.length) ∧ Hid (n' ≤ c') ∧ Hid (n' ≤ 1000) ∧ Hid (Bts wr 0 w.heap.size A' n' l') ∧ Hid (Rd wr lo g l') ∧ Hid (Below w.heap.size w wr))
  case atStart => exact ⟨A, n, c, l, rfl, hid rfl, HC, HN, HBT, HRD, HB2⟩
  case round =>
    obtain ⟨A', n', c', l', rfl, hkk, hc', hn', hbt, hrd, hbel⟩ := hrel
    clear HC HN HBT HRD HB2
    have hc := get_c wr lo g l' hrd.out
    go_wp2_with fail
    refine hc.mono ?_
    rintro e w3 ⟨hg3, hcase⟩
    clear hc
    have HB3 : Hid (Below w.heap.size w w3) := hid (hbel.out.grown hg3 hbel.out.size (fun k hk => by injection hk with hk; have := HGL.out; omega))
    have HT3 : Hid (Bts w3 0 w.heap.size A' n' l') := hid (hbt.out.grown hg3 hbel.out.size (fun k hk => by injection hk with hk; have := HGL.out; omega))
    clear hg3 hbel hbt hrd
    rcases hcase with ⟨v, k, hv, rfl, hrd3⟩ | ⟨hv, rfl⟩
    · as_aux_lemma =>
      have HVG := hid hv
      have HKL := hid (vGet_len hv)
      have HLN := hid HT3.out.len
      have HV3 := hid (Blk.new w3 26 #[.int .i64 (vk v), .int .i64 (vn v), .string (str (vs v)), .int .u64 ((vf v : Nat) : Int)])
      have HB4 := hid (bel1 w3 (.cells #[.int .i64 (vk v), .int .i64 (vn v), .string (str (vs v)), .int .u64 ((vf v : Nat) : Int)] 26))
      have HRD3 := hid hrd3
      clear hv hrd3
      go_upto_region 8 with fail
      generalize w3.alloc (.cells #[.int .i64 (vk v), .int .i64 (vn v), .string (str (vs v)), .int .u64 ((vf v : Nat) : Int)] 26) = w4 at *
      have HW4 : Hid (Below w.heap.size w w4) := hid (HB3.out.trans (HB4.out.mono HB3.out.size))
      have HT4 : Hid (Bts w4 0 w.heap.size A' n' l') := hid (HT3.out.below (HB4.out.mono HB3.out.size) (Nat.le_refl _))
      have HRD4 := hid (rd_bel HRD3.out HB4.out)
      have hc := rget_c A' n' c' l' w4 hc'.out (HT4.out.wide (Nat.le_refl _) HW4.out.size) hn'.out
      generalize w3.heap.size = vb at *
      clear HB3 HT3 HRD3 HB4
      go_wp2_with fail
      refine hc.mono ?_
      rintro e w5 ⟨rfl, hb5⟩
      clear hc
      rw [(rg_some HVG.out).1, (rg_some HVG.out).2]
      have HW5 : Hid (Below w.heap.size w w5) := hid (HW4.out.trans (hb5.mono HW4.out.size))
      have HT5 : Hid (Bts w5 0 w.heap.size A' n' l') := hid (HT4.out.below (hb5.mono HW4.out.size) (Nat.le_refl _))
      have HRD5 := hid (rd_bel HRD4.out hb5)
      have HV5 := hid (HV3.out.bel hb5 HV3.out.lt)
      have HB6 := hid (bel1 w5 (.cells #[.int .i64 (vk v), .int .i64 (vn v), .string (str (vs v)), .int .u64 ((vf v : Nat) : Int)] 26))
      have HX6 := hid (Blk.new w5 26 #[.int .i64 (vk v), .int .i64 (vn v), .string (str (vs v)), .int .u64 ((vf v : Nat) : Int)])
      clear hb5 HW4 HT4 HRD4 HV3
      go_upto_region 9 with fail
      generalize w5.alloc (.cells #[.int .i64 (vk v), .int .i64 (vn v), .string (str (vs v)), .int .u64 ((vf v : Nat) : Int)] 26) = w6 at *
      have HW6 : Hid (Below w.heap.size w w6) := hid (HW5.out.trans (HB6.out.mono HW5.out.size))
      have HT6 : Hid (Bts w6 0 w.heap.size A' n' l') := hid (HT5.out.below (HB6.out.mono HW5.out.size) (Nat.le_refl _))
      have HRD6 := hid (rd_bel HRD5.out HB6.out)
      obtain ⟨x0, x1, x2, x3, -⟩ := Blk.v4 (HV5.out.bel HB6.out HV5.out.lt)
      obtain ⟨y0, y1, y2, y3, -⟩ := Blk.v4 HX6.out
      have eqv := eq_same v
      have k1 : decide ((0 : Int) < (k : Int)) = true := by have := HKL.out; simp; omega
      have k1n : decide (0 < k) = true := by have := HKL.out; simp; omega
      have k2 : (k : Int) ≤ (n' : Int) := by have := HKL.out; have := HLN.out; omega
      have k3 : (n' : Int) ≤ (c' : Int) := by have := hc'.out; omega
      have k0 : (0 : Int) ≤ (k : Int) := by omega
      have hdn := done_good w6 lo g (l'.drop k) HRD6.out
      have HCUT := hid (HT6.out.cut (k := k) (by have := HKL.out; have := HLN.out; omega) hc'.out)
      have HDL : Hid ((l'.drop k).length = n' - k) := hid (by rw [List.length_drop, HLN.out])
      have HML : Hid ((l'.drop k).length < l'.length) := hid (by rw [List.length_drop]; have := HKL.out; omega)
      have HNB : Hid (n' - k ≤ c' - k ∧ n' - k ≤ 1000) := hid (by have := hc'.out; have := hn'.out; omega)
      have hempty : ((l'.drop k).isEmpty = true ∧ (((n' - k : Nat) : Int) == 0) = true ∧ n' - k = 0) ∨ ((l'.drop k).isEmpty = false ∧ (((n' - k : Nat) : Int) == 0) = false) := by
        rcases Nat.eq_zero_or_pos (n' - k) with h0 | h0
        · exact .inl ⟨by rw [List.isEmpty_iff]; exact List.eq_nil_of_length_eq_zero (by rw [HDL.out]; exact h0), by rw [h0]; rfl, h0⟩
        · refine .inr ⟨?_, beq_false_of_ne (by omega)⟩
          cases hd : l'.drop k with
          | nil => have := HDL.out; rw [hd] at this; simp at this; omega
          | cons => rfl
      clear HV5 HX6 HB6 HW5 HT5 HRD5 HT6 HLN HVG HKL
      generalize l'.drop k = l2 at *
      by_cases hck : c' = k
      · as_aux_lemma =>
        obtain rfl : n' = c' := by omega
        subst hck
        have hl2 : l2 = [] := List.eq_nil_of_length_eq_zero (by rw [HDL.out]; omega)
        subst hl2
        clear HCUT HDL hempty k2 k3 HNB
        go_wp2_with fail
        refine hdn.mono ?_
        rintro e w' ⟨rfl, rfl⟩
        go_wp2
        go_roundg 0
        case measure => have := hkk.out; have := HML.out; simp at this; omega
        case rel => exact ⟨A', 0, 0, [], rfl, hid rfl, hid (Nat.le_refl _), hid (Nat.zero_le _), hid (Bts.nil _ _ _ _), HRD6, HW6⟩
      · have HC2 : Hid (Bts w6 0 w.heap.size (A'.map (·.add k)) (n' - k) l2) := hid (by have := HCUT.out; rwa [if_neg hck] at this)
        clear HCUT
        have hem : ∃ eb : Bool, l2.isEmpty = eb ∧ (((n' - k : Nat) : Int) == 0) = eb := by
          rcases hempty with ⟨h1, h2, _⟩ | ⟨h1, h2⟩
          · exact ⟨true, h1, h2⟩
          · exact ⟨false, h1, h2⟩
        obtain ⟨eb, h1, h2⟩ := hem
        clear hempty
        rcases eb with _ | _
        all_goals
          as_aux_lemma =>
          rw [h1] at hdn
          go_wp2_with fail
          refine hdn.mono ?_
          rintro e w' ⟨rfl, rfl⟩
          go_wp2
          go_roundg l2.length
          case measure => have := hkk.out; have := HML.out; omega
          case rel => exact ⟨_, _, _, l2, rfl, hid rfl, hid HNB.out.1, hid HNB.out.2, HC2, HRD6, HW6⟩
    · as_aux_lemma =>
      have HVG := hid hv
      have HV3 := hid (Blk.new w3 26 #[.int .i64 0, .int .i64 0, .string (str []), .int .u64 0])
      have HB4 := hid (bel1 w3 (.cells #[.int .i64 0, .int .i64 0, .string (str []), .int .u64 0] 26))
      clear hv
      rw [show vk vNull = 0 from rfl, show vn vNull = 0 from rfl, show vs vNull = [] from rfl, show vf vNull = 0 from rfl]
      go_upto_region 8 with fail
      generalize w3.alloc (.cells #[.int .i64 0, .int .i64 0, .string (str []), .int .u64 0] 26) = w4 at *
      have HW4 : Hid (Below w.heap.size w w4) := hid (HB3.out.trans (HB4.out.mono HB3.out.size))
      have HT4 : Hid (Bts w4 0 w.heap.size A' n' l') := hid (HT3.out.below (HB4.out.mono HB3.out.size) (Nat.le_refl _))
      have hc := rget_c A' n' c' l' w4 hc'.out (HT4.out.wide (Nat.le_refl _) HW4.out.size) hn'.out
      generalize w3.heap.size = vb at *
      clear HB3 HT3 HB4
      go_wp2_with fail
      refine hc.mono ?_
      rintro e w5 ⟨rfl, hb5⟩
      clear hc
      rw [(rg_none HVG.out).1, (rg_none HVG.out).2]
      rw [show vk vNull = 0 from rfl, show vn vNull = 0 from rfl, show vs vNull = [] from rfl, show vf vNull = 0 from rfl]
      have HW5 : Hid (Below w.heap.size w w5) := hid (HW4.out.trans (hb5.mono HW4.out.size))
      have HV5 := hid (HV3.out.bel hb5 HV3.out.lt)
      have HB6 := hid (bel1 w5 (.cells #[.int .i64 0, .int .i64 0, .string (str []), .int .u64 0] 26))
      have HX6 := hid (Blk.new w5 26 #[.int .i64 0, .int .i64 0, .string (str []), .int .u64 0])
      clear hb5 HW4 HT4 HV3
      go_upto_region 9 with fail
      generalize w5.alloc (.cells #[.int .i64 0, .int .i64 0, .string (str []), .int .u64 0] 26) = w6 at *
      have HW6 : Hid (Below w.heap.size w w6) := hid (HW5.out.trans (HB6.out.mono HW5.out.size))
      obtain ⟨x0, x1, x2, x3, -⟩ := Blk.v4 (HV5.out.bel HB6.out HV5.out.lt)
      obtain ⟨y0, y1, y2, y3, -⟩ := Blk.v4 HX6.out
      have eqv : ∀ wx : World, (Op.equalIn 10000 26 (.agg #[.int .i64 0, .int .i64 0, .string (str []), .int .u64 0]) (.agg #[.int .i64 0, .int .i64 0, .string (str []), .int .u64 0])).run Tryz.prog wx = .ok true wx := eq_same vNull
      clear HV5 HX6 HB6 HW5
      go_wp2
      go_ret
      exact ⟨rfl, HW6.out⟩

theorem walkValueGets (a0 : Option Addr) (n0 c0 : Nat) (z0 : List Int) (w : World) (w0 : IsRow .u8 w a0 n0 c0 z0) (hw : Lw w) :
    Calls Tryz.prog 4 #[.slice a0 n0 c0] w fun e w' => e = .returned (.bool true) ∧ Below w.heap.size w w' := by
  obtain ⟨l, hb, hc, _⟩ := argB w0
  by_cases hn : n0 ≤ 1000
  · exact gets_core a0 n0 c0 l w hc hb hn hw
  · exact gets_long a0 n0 c0 w (by omega) hw
end Go.Proofs.YtfjpnkchldjjmaaGreatDoor
