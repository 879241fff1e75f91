/- The walk of RootCounts: it answers true, whatever the input. -/
import Derived.Test.YtocmgdhgimpfhaaRtLaw
namespace Go.Proofs.Ytocmgdhgimpfhaa
open Go.RowKit

theorem Lst.lt {w : World} {lo hi n : Nat} {A : Option Addr} {xs : List Value} (h : Lst w lo hi A n xs) (hn : 0 < n) (u : Nat) (hu : A.map (·.block) = some u) : u < hi := by
  obtain ⟨g, off, rfl, _, h3, _⟩ := h.2 hn
  simp at hu
  omega
set_option maxRecDepth 100000 in
set_option maxHeartbeats 8000000 in
theorem walkRootCounts (A0 : Option Addr) (n0 c0 : Nat) (zs : List Int) (A1 : Option Addr) (n1 c1 : Nat) (ks : List Bool) (w : World) (h0 : IsRow .u8 w A0 n0 c0 zs) (h1 : Lst w 0 w.heap.size A1 n1 (ks.map Value.bool)) :
    Calls Try.prog 5 #[.slice A0 n0 c0, .slice A1 n1 c1] w fun e w' => e = .returned (.bool true) ∧ Below w.heap.size w w' := by
  obtain ⟨l, hl, hc1, hc2⟩ := argB h0
  have HBT := hid hl
  have HK := hid h1
  have HNM : Hid (n0 ≤ 9223372036854775807) := hid (by unfold maxLen at hc2; omega)
  clear hl hc1 hc2 h0 h1
  go_enter Try.func5, Try.ntmps5
  go_wp2_with fail
  refine (rtfirst_c w).mono ?_
  rintro e w1 ⟨rfl, hb1⟩
  have HB1 := hid hb1
  clear hb1
  by_cases hn1 : 60 < n1
  · have e1 : decide ((60 : Int) < (n1 : Int)) = true := by simp; omega
    have e2 : decide (60 < n1) = true := by simpa using hn1
    clear hn1
    as_aux_lemma =>
    go_wp2
    go_ret
    exact ⟨rfl, HB1.out⟩
  have e1 : decide ((60 : Int) < (n1 : Int)) = false := by simp; omega
  have e2 : decide (60 < n1) = false := by simp; omega
  clear hn1
  go_wp2_with fail
  clear e1 e2
  refine (dnew_on w w1 HB1.out 3 (by omega) (by omega)).mono ?_
  rintro e w2 ⟨gd, rfl, hv2, -⟩
  have HV2 := hid hv2
  clear hv2 HB1
  go_wp2_with fail
  refine (vnew_on HV2.out).mono ?_
  rintro e w3 ⟨gv, rfl, hv3, -⟩
  have HV4 := hid (tc_new hv3).1
  clear hv3 HV2
  go_wp2_with fail
  generalize w3.heap.size = gc at *
  generalize w3.alloc (.cells #[.int .i64 0, .int .i64 0] 33) = w4 at *
  go_loopg [9, 10, 30] n0 (fun kk nv sv iv wr => ∃ (j : Nat) (d : St) (v : Va) (c : Ce) (now : List UInt8), nv = .int .i64 (c.ver : Int) ∧ sv = .string (str now) ∧ iv = .int .i64 (j : Int) ∧ Hid (kk = n0 - j) ∧ Hid (j ≤ n0) ∧ Hid (Rt d v c now false) ∧ Hid (v.L.length ≤ j ∧ j ≤ 40) ∧ Hid (c.mark ≤ 600000) ∧ Hid (d.W.length ≤ 0) ∧ Hid (On w (TC gd d gv v gc c) wr (fun _ => False)))
  case atStart => exact ⟨0, St.new 3, Va.new, ⟨0, 0⟩, [], rfl, rfl, rfl, hid (by omega), hid (Nat.zero_le _), hid (Rt.new (by omega) _), hid ⟨Nat.le_refl _, by omega⟩, hid (Nat.zero_le _), hid (Nat.zero_le _), HV4⟩
  case round =>
  obtain ⟨j, d, v, c, now, rfl, rfl, rfl, hgk, hj, hR, hLj, hM, hW, hV⟩ := hrel
  clear HV4
  rcases Nat.lt_or_ge j n0 with hlt | hge
  · have HLT := hid hlt
    obtain ⟨g, off, rfl, _, hgl, hcell⟩ := (HBT.out.lst.below hV.out.below (Nat.le_refl _)).at_ hlt
    have hll : j < l.length := by rw [HBT.out.len]; exact hlt
    have hce : wr.cell? ⟨g, off + j, none⟩ = some (.int .u8 (l[j].toNat : Int)) := by
      rw [hcell]
      simp [bs]
    have hl256 := l[j].toNat_lt
    generalize l[j].toNat = t at *
    have j1 : (0 : Int) ≤ (j : Int) := by omega
    have j2 : (j : Int) < (n0 : Int) := by omega
    have j3 : decide ((j : Int) < (n0 : Int)) = true := by simpa using hlt
    have j4 : decide (j < n0) = true := by simpa using hlt
    have wj : wrap64 ((j : Int) + 1) = ((j + 1 : Nat) : Int) := by have := HNM.out; unfold wrap64; omega
    clear hcell hgl hll
    by_cases h40 : 40 ≤ j
    · have e1 : decide ((40 : Int) ≤ (j : Int)) = true := by simp; omega
      have e2 : decide (40 ≤ j) = true := by simpa using h40
      have HBX := hid hV.out.below
      clear h40 hlt hl256 hV hR
      as_aux_lemma =>
      go_wp2
      go_ret
      exact ⟨rfl, HBX.out⟩
    have e1 : decide ((40 : Int) ≤ (j : Int)) = false := by simp; omega
    have e2 : decide (40 ≤ j) = false := by simpa using h40
    have H40 : Hid (j < 40) := hid (by omega)
    have HT : Hid (t < 256) := hid hl256
    have u8j : IntKind.u8.wrap (j : Int) = (j : Int) := wrap8 (by omega)
    have u8k : (j : Int) % 256 = (j : Int) := by omega
    obtain ⟨x, hx5, r1, r2, r3, r4, r5, r6, hx⟩ := rs5 t
    have HX := hid hx
    clear h40 hlt hl256 hx5 hx
    go_wp2_with fail
    refine (dlimit_on (tc_d gv v gc c) hV.out (x : Int) HX.out).mono ?_
    rintro e w5 ⟨rfl, hv5, -⟩
    have H5 := hid hv5
    clear hv5 hV r1 r2 r3 r4 r5 r6 hce
    have hcv := conv_two w5 (j := j) (x := t) (by have := H40.out; omega) HT.out
    have hL2 : ([UInt8.ofNat j, UInt8.ofNat t] : List UInt8).length = 2 := rfl
    obtain ⟨RA, rc, w6, hrun, hb6, hbt⟩ := str_row (w5.alloc (.cells #[.int .u8 (j : Int), .int .u8 (t : Int)] 5)) [UInt8.ofNat j, UInt8.ofNat t]
    rw [hL2] at hrun hbt
    have hb5 : Below w5.heap.size w5 (w5.alloc (.cells #[.int .u8 (j : Int), .int .u8 (t : Int)] 5)) := (Below.refl _ _).alloc (Nat.le_refl _) _
    have hb56 := hb5.trans (hb6.mono hb5.size)
    have HR1 := hid (hR.out.bound (x : Int))
    have hwr := put_on (C := fun P => P) (w := w) (gd := gd) (gv := gv) (gc := gc) (d := d.bound (x : Int)) (v := v) (c := c) Foc.self (fun _ h => h) (On.go H5.out (TC.ok gd (d.bound (x : Int)) gv v gc c) hb56) RA 2 rc _ hbt (show d.W.length ≤ _ by have := hW.out; omega) (by have := hLj.out; omega) (by have := hLj.out; have := hR.out.ver; omega)
    have hpt := HR1.out.put (by have := hLj.out; omega) (l := [UInt8.ofNat j, UInt8.ofNat t]) (by simp)
    have hW2 : (ptD (d.bound (x : Int)) v c ([UInt8.ofNat j, UInt8.ofNat t] : List UInt8).length).W.length ≤ 1000000 := by have h1 := ptD_W (d.bound (x : Int)) v c ([UInt8.ofNat j, UInt8.ofNat t] : List UInt8).length; have h2 : (d.bound (x : Int)).W.length = d.W.length := rfl; have := hW.out; omega
    have hL3 : (ptV (d.bound (x : Int)) v c [UInt8.ofNat j, UInt8.ofNat t]).L.length ≤ j + 1 := by have h1 := (ptV_L (d.bound (x : Int)) v c [UInt8.ofNat j, UInt8.ofNat t]).1; have := hLj.out; omega
    have hM3 : (ptC (d.bound (x : Int)) v c ([UInt8.ofNat j, UInt8.ofNat t] : List UInt8).length).mark ≤ 600000 := by have h1 := (ptC_ver (d.bound (x : Int)) v c ([UInt8.ofNat j, UInt8.ofNat t] : List UInt8).length).2; have := hM.out; have := hLj.out; omega
    have hvv := up1 (n := c.ver) (by have := hLj.out; have := hR.out.ver; omega)
    have HWR := hid hwr
    have HPT := hid hpt
    have HWW := hid hW2
    have HLL := hid hL3
    have HM2 := hid hM3
    have HVV1 := hid hvv
    clear hb6 hb5 hb56 hbt hwr hpt hW2 hL3 hM3 hL2 hM hW hR HR1 H5 hvv
    go_wp2_with fail
    generalize hnow : ([UInt8.ofNat j, UInt8.ofNat t] : List UInt8) = nb at *
    refine HWR.out.mono ?_
    rintro e w7 ⟨rfl, hv7, -⟩
    have H7_ := hid hv7
    clear hv7 HWR hrun hcv e1 e2 j1 j2 j3 j4
    generalize ptD (d.bound (x : Int)) v c nb.length = d2 at *
    generalize ptV (d.bound (x : Int)) v c nb = v2 at *
    rcases HPT.out with ⟨p1, p2, p3⟩ | ⟨p1, p2, p3⟩
    · rw [p1]
      have HR2 := hid p2
      have HP3 := hid p3
      have H5 := H7_
      have hw := HVV1.out
      have t0 : ((c.ver + 1 : Nat) : Int) = ((ptC (d.bound (x : Int)) v c nb.length).ver : Int) := by rw [p3]
      rw [t0] at hw
      clear p1 p2 p3 HPT H7_ HVV1 t0 hnow
      generalize ptC (d.bound (x : Int)) v c nb.length = c2 at *
      obtain ⟨now2, hn2⟩ : ∃ now2, nb = now2 := ⟨_, rfl⟩
      rw [hn2] at HR2 ⊢
      clear hn2
      as_aux_lemma =>
      go_wp2_with fail
      refine (dcrash_on (tc_d gv _ gc _) H5.out A1 n1 c1 ks ((HK.out.below H5.out.below (Nat.le_refl _)).wide (Nat.le_refl _) H5.out.below.size) (fun h0 x hx => .inr (Lst.lt HK.out h0 x hx)) HWW.out).mono ?_
      rintro e w6 ⟨rfl, hv6, -⟩
      have H6 := hid hv6
      clear hv6 H5
      go_wp2_with fail
      refine (get_on (C := fun P => P) (d := d2.crash ks) (v := v2) (c := c2) Foc.self (fun _ h => h) H6.out (by have := HR2.out.ver; have := HLL.out; omega) HM2.out).mono ?_
      rintro e w7 ⟨A7, n7, k7, rfl, ho7, -, hb7⟩
      have H7 := hid (On.go H6.out (TC.ok gd (d2.crash ks) gv v2 gc c2) hb7)
      have hst := own_str ho7 (c := k7)
      clear hb7 H6 ho7
      rcases Nat.eq_zero_or_pos c2.ver with hz | hz
      · have t0 : gtE (d2.crash ks) v2 c2 = 90 := if_pos hz
        rw [t0]
        have t1 : ((c2.ver : Int) == 0) = true := by simp [hz]
        have t2 : decide ((c2.ver : Int) = 0) = true := by simp [hz]
        have t3 : decide ((0 : Int) < (c2.ver : Int)) = false := by simp [hz]
        have t4 : decide (0 < c2.ver) = false := by simp [hz]
        have t5 : (c2.ver == 0) = true := by simp [hz]
        have t6 : decide (c2.ver = 0) = true := by simp [hz]
        clear hz t0
        as_aux_lemma =>
        go_wp2_with fail
        refine (cver_c (tc_c gd (d2.crash ks) gv v2) H7.out).mono ?_
        rintro e w8 ⟨rfl, rfl⟩
        generalize hV : c2.ver = V at *
        have HVV := hid hV
        clear hV
        go_wp2_with fail
        go_roundg (n0 - (j + 1))
        case measure => have := hgk.out; have := HLT.out; omega
        case rel => exact ⟨j + 1, d2.crash ks, v2, c2, now2, congrArg (Value.int .i64) (by exact congrArg (fun q : Nat => (q : Int)) HVV.out.symm), rfl, congrArg (Value.int .i64) (by first | exact wj | omega | rfl), hid rfl, hid (by have := HLT.out; omega), hid (HR2.out.crash ks), hid (by have := HLL.out; have := H40.out; omega), hid HM2.out, hid (Nat.zero_le _), H7⟩
      · have hgot : gtE (d2.crash ks) v2 c2 = 0 ∧ gtB (d2.crash ks) v2 c2 = now2 := by
          rcases (HR2.out.crash ks).got (by have := HLL.out; omega) hz with h | ⟨_, h⟩ | ⟨_, h⟩
          · exact h
          · cases h
          · cases h
        rw [hgot.1]
        rw [hgot.2] at hst
        have t1 : ((c2.ver : Int) == 0) = false := by simp; omega
        have t2 : decide ((c2.ver : Int) = 0) = false := by simp; omega
        have t3 : decide ((0 : Int) < (c2.ver : Int)) = true := by simp; omega
        have t4 : decide (0 < c2.ver) = true := by simp; omega
        have t5 : (c2.ver == 0) = false := by simp; omega
        have t6 : decide (c2.ver = 0) = false := by simp; omega
        have t7 : ((str now2).toList == (str now2).toList) = true := by simp
        clear hz hgot
        as_aux_lemma =>
        go_wp2_with fail
        refine (cver_c (tc_c gd (d2.crash ks) gv v2) H7.out).mono ?_
        rintro e w8 ⟨rfl, rfl⟩
        generalize hV : c2.ver = V at *
        have HVV := hid hV
        clear hV
        go_wp2_with fail
        go_roundg (n0 - (j + 1))
        case measure => have := hgk.out; have := HLT.out; omega
        case rel => exact ⟨j + 1, d2.crash ks, v2, c2, now2, congrArg (Value.int .i64) (by exact congrArg (fun q : Nat => (q : Int)) HVV.out.symm), rfl, congrArg (Value.int .i64) (by first | exact wj | omega | rfl), hid rfl, hid (by have := HLT.out; omega), hid (HR2.out.crash ks), hid (by have := HLL.out; have := H40.out; omega), hid HM2.out, hid (Nat.zero_le _), H7⟩
    · rw [p1]
      rw [p3] at p2 HM2 H7_
      have HR2 := hid p2
      have H5 := H7_
      clear p1 p2 p3 HPT H7_ HVV1 hnow
      as_aux_lemma =>
      go_wp2_with fail
      refine (dcrash_on (tc_d gv _ gc _) H5.out A1 n1 c1 ks ((HK.out.below H5.out.below (Nat.le_refl _)).wide (Nat.le_refl _) H5.out.below.size) (fun h0 x hx => .inr (Lst.lt HK.out h0 x hx)) HWW.out).mono ?_
      rintro e w6 ⟨rfl, hv6, -⟩
      have H6 := hid hv6
      clear hv6 H5
      go_wp2_with fail
      refine (get_on (C := fun P => P) (d := d2.crash ks) (v := v2) (c := c) Foc.self (fun _ h => h) H6.out (by have := HR2.out.ver; have := HLL.out; omega) HM2.out).mono ?_
      rintro e w7 ⟨A7, n7, k7, rfl, ho7, -, hb7⟩
      have H7 := hid (On.go H6.out (TC.ok gd (d2.crash ks) gv v2 gc c) hb7)
      have hst := own_str ho7 (c := k7)
      clear hb7 H6 ho7
      rcases Nat.eq_zero_or_pos c.ver with hz | hz
      · have t0 : gtE (d2.crash ks) v2 c = 90 := if_pos hz
        rw [t0]
        have t1 : ((c.ver : Int) == 0) = true := by simp [hz]
        have t2 : decide ((c.ver : Int) = 0) = true := by simp [hz]
        have t3 : decide ((0 : Int) < (c.ver : Int)) = false := by simp [hz]
        have t4 : decide (0 < c.ver) = false := by simp [hz]
        have t5 : (c.ver == 0) = true := by simp [hz]
        have t6 : decide (c.ver = 0) = true := by simp [hz]
        clear hz t0
        as_aux_lemma =>
        go_wp2_with fail
        refine (cver_c (tc_c gd (d2.crash ks) gv v2) H7.out).mono ?_
        rintro e w8 ⟨rfl, rfl⟩
        generalize hV : c.ver = V at *
        have HVV := hid hV
        clear hV
        go_wp2_with fail
        go_roundg (n0 - (j + 1))
        case measure => have := hgk.out; have := HLT.out; omega
        case rel => exact ⟨j + 1, d2.crash ks, v2, c, now, congrArg (Value.int .i64) (by exact congrArg (fun q : Nat => (q : Int)) HVV.out.symm), rfl, congrArg (Value.int .i64) (by first | exact wj | omega | rfl), hid rfl, hid (by have := HLT.out; omega), hid (HR2.out.crash ks), hid (by have := HLL.out; have := H40.out; omega), hid HM2.out, hid (Nat.zero_le _), H7⟩
      · have hgot : gtE (d2.crash ks) v2 c = 0 ∧ gtB (d2.crash ks) v2 c = now := by
          rcases (HR2.out.crash ks).got (by have := HLL.out; omega) hz with h | ⟨_, h⟩ | ⟨_, h⟩
          · exact h
          · cases h
          · cases h
        rw [hgot.1]
        rw [hgot.2] at hst
        have t1 : ((c.ver : Int) == 0) = false := by simp; omega
        have t2 : decide ((c.ver : Int) = 0) = false := by simp; omega
        have t3 : decide ((0 : Int) < (c.ver : Int)) = true := by simp; omega
        have t4 : decide (0 < c.ver) = true := by simp; omega
        have t5 : (c.ver == 0) = false := by simp; omega
        have t6 : decide (c.ver = 0) = false := by simp; omega
        have t7 : ((str now).toList == (str now).toList) = true := by simp
        clear hz hgot
        as_aux_lemma =>
        go_wp2_with fail
        refine (cver_c (tc_c gd (d2.crash ks) gv v2) H7.out).mono ?_
        rintro e w8 ⟨rfl, rfl⟩
        generalize hV : c.ver = V at *
        have HVV := hid hV
        clear hV
        go_wp2_with fail
        go_roundg (n0 - (j + 1))
        case measure => have := hgk.out; have := HLT.out; omega
        case rel => exact ⟨j + 1, d2.crash ks, v2, c, now, congrArg (Value.int .i64) (by exact congrArg (fun q : Nat => (q : Int)) HVV.out.symm), rfl, congrArg (Value.int .i64) (by first | exact wj | omega | rfl), hid rfl, hid (by have := HLT.out; omega), hid (HR2.out.crash ks), hid (by have := HLL.out; have := H40.out; omega), hid HM2.out, hid (Nat.zero_le _), H7⟩
  · have j3 : decide ((j : Int) < (n0 : Int)) = false := by simp; omega
    have j4 : decide (j < n0) = false := by simp; omega
    have HBX := hid hV.out.below
    clear hge hV hR
    as_aux_lemma =>
    go_wp2
    go_ret
    exact ⟨rfl, HBX.out⟩
end Go.Proofs.Ytocmgdhgimpfhaa
