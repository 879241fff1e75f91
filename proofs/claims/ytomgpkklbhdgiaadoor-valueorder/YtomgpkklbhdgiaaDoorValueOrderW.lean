/- The walk of ValueOrder: for every three values the law answers true. -/
import Derived.Test.YtomgpkklbhdgiaaDoorVlArg
import Derived.Test.YtomgpkklbhdgiaaDoorVlEq
import Derived.Deep.DeepCutAuto
namespace Go.Proofs.YtomgpkklbhdgiaaDoor
open Go.RowKit

/-- Three values that lie side by side. -/
def Three3 (w : World) (g : Nat) (a b c : Vl) (wx : World) : Prop := Blk wx g 25 (cs4 a) ∧ Blk wx (g + 1) 25 (cs4 b) ∧ Blk wx (g + 2) 25 (cs4 c) ∧ Below w.heap.size w wx
theorem Three3.step {w : World} {g : Nat} {a b c : Vl} {wx wy : World} (h : Three3 w g a b c wx) (hb : Below wx.heap.size wx wy) : Three3 w g a b c wy :=
  ⟨h.1.bel hb h.1.lt, h.2.1.bel hb h.2.1.lt, h.2.2.1.bel hb h.2.2.1.lt, h.2.2.2.trans (hb.mono h.2.2.2.size)⟩
theorem ord_tri (a b : Vl) : vOrdR a b = -1 ∨ vOrdR a b = 0 ∨ vOrdR a b = 1 := by
  unfold vOrdR
  (repeat' split)
  · exact sgn_cases _
  · exact sgn_cases _
  · exact tCmp_cases _ _
  · exact .inr (.inl rfl)
  · exact sgn_cases _
theorem neg_w {x y : Int} (h : x = -1 ∨ x = 0 ∨ x = 1) (h2 : x = -y) : (x != -y) = false ∧ (x != wrap64 (-y)) = false ∧ (x != IntKind.i64.wrap (-y)) = false := by
  have e : wrap64 (-y) = -y := by unfold wrap64; omega
  have e2 : IntKind.i64.wrap (-y) = -y := IntWalk.i64_in _ (by omega)
  rw [e, e2, ← h2]; simp
theorem vord_of {a b : Vl} (ha : vRight a = true) (hb : vRight b = true) : vOrd a b = vOrdR a b := by unfold vOrd; rw [vRt_of ha, vRt_of hb]
theorem vcmp_of {a b : Vl} (ha : vRight a = true) (hb : vRight b = true) : vCmp a b = vCmpR a b ∧ vCmpOk a b = vCmpOkR a b := by unfold vCmp vCmpOk; rw [vRt_of ha, vRt_of hb]; exact ⟨rfl, rfl⟩

set_option maxRecDepth 20000 in
set_option maxHeartbeats 4000000 in
theorem coreValueOrder (a b c : Vl) (w : World) (fa : vf a < 18446744073709551616) (fb : vf b < 18446744073709551616) (fc : vf c < 18446744073709551616) (hw : Lw w) :
    Calls Tryd.prog 3 #[(.agg #[.int .i64 (vk a), .int .i64 (vn a), .string (str (vs a)), .int .u64 ((vf a : Nat) : Int)]), (.agg #[.int .i64 (vk b), .int .i64 (vn b), .string (str (vs b)), .int .u64 ((vf b : Nat) : Int)]), (.agg #[.int .i64 (vk c), .int .i64 (vn c), .string (str (vs c)), .int .u64 ((vf c : Nat) : Int)])] w fun e w' => e = .returned (.bool true) ∧ Below w.heap.size w w' := by
  have HW := hid hw
  have FA := hid fa
  have FB := hid fb
  have FC := hid fc
  clear hw fa fb fc
  have za : (str (vs a)).size = (vs a).length := str_size _
  have zb : (str (vs b)).size = (vs b).length := str_size _
  have zc : (str (vs c)).size = (vs c).length := str_size _
  go_enter Tryd.func3, Tryd.ntmps3
  go_wp2_with fail
  refine (first_c _ (HW.out.below ((bel2 w _ _).alloc (by simp; omega) _))).mono ?_
  rintro e w1 ⟨rfl, hb1⟩
  have H1 : Three3 w w.heap.size a b c w1 := three_boxes hb1
  clear hb1
  go_upto_region 3 with fail
  go_cut [37] (fun s37 wx => ∃ q : Bool, s37 = .bool q ∧ Three3 w w.heap.size a b c wx ∧ Hid (q = false → vRight a = true ∧ vRight b = true ∧ vRight c = true))
  case first =>
    have H0 := H1
    obtain ⟨p0, p1, p2, p3, -⟩ := Blk.v4 H1.1
    obtain ⟨q0, q1, q2, q3, -⟩ := Blk.v4 H1.2.1
    obtain ⟨r0, r1, r2, r3, -⟩ := Blk.v4 H1.2.2.1
    have CA := hid (fun wx => rRight_c a FA.out wx)
    have CB := hid (fun wx => rRight_c b FB.out wx)
    have CC := hid (fun wx => rRight_c c FC.out wx)
    generalize ha : vRight a = qa at *
    generalize hb : vRight b = qb at *
    generalize hc : vRight c = qc at *
    clear ha hb hc
    have hways : ∃ M : Nat, (((vs a).length < (vs b).length ∧ (vs b).length < (vs c).length ∧ M = (vs c).length) ∨ ((vs a).length < (vs b).length ∧ ¬ (vs b).length < (vs c).length ∧ M = (vs b).length) ∨ (¬ (vs a).length < (vs b).length ∧ (vs a).length < (vs c).length ∧ M = (vs c).length) ∨ (¬ (vs a).length < (vs b).length ∧ ¬ (vs a).length < (vs c).length ∧ M = (vs a).length)) := by
      by_cases h1 : (vs a).length < (vs b).length
      · by_cases h2 : (vs b).length < (vs c).length
        · exact ⟨_, .inl ⟨h1, h2, rfl⟩⟩
        · exact ⟨_, .inr (.inl ⟨h1, h2, rfl⟩)⟩
      · by_cases h2 : (vs a).length < (vs c).length
        · exact ⟨_, .inr (.inr (.inl ⟨h1, h2, rfl⟩))⟩
        · exact ⟨_, .inr (.inr (.inr ⟨h1, h2, rfl⟩))⟩
    obtain ⟨M, hways⟩ := hways
    rcases hways with ⟨h1, h2, h3⟩ | ⟨h1, h2, h3⟩ | ⟨h1, h2, h3⟩ | ⟨h1, h2, h3⟩
    · by_cases hbig : 1000 < M
      · have d1 : decide (1000 < ((vs c).length : Int)) = true := by rw [← h3]; simp; omega
        have d1' : decide (1000 < (vs c).length) = true := by rw [← h3]; simpa using hbig
        clear H1 hbig
        go_wp2_with fail
        go_meet
        exact ⟨true, rfl, H0, hid (fun h => by cases h)⟩
      · have d1 : decide (1000 < ((vs c).length : Int)) = false := by rw [← h3]; simp; omega
        have d1' : decide (1000 < (vs c).length) = false := by rw [← h3]; simpa using hbig
        clear hbig H0
        go_wp2_with fail
        refine (CA.out _).mono ?_
        rintro e w2 ⟨rfl, hb2⟩
        have H2 := H1.step hb2
        clear p0 p1 p2 p3 q0 q1 q2 q3 r0 r1 r2 r3 H1 hb2
        obtain ⟨q0, q1, q2, q3, -⟩ := Blk.v4 H2.2.1
        obtain ⟨r0, r1, r2, r3, -⟩ := Blk.v4 H2.2.2.1
        cases qa
        · go_wp2_with fail
          go_meet
          exact ⟨true, rfl, H2, hid (fun h => by cases h)⟩
        go_wp2_with fail
        refine (CB.out _).mono ?_
        rintro e w3 ⟨rfl, hb3⟩
        have H3 := H2.step hb3
        clear q0 q1 q2 q3 r0 r1 r2 r3 H2 hb3
        obtain ⟨r0, r1, r2, r3, -⟩ := Blk.v4 H3.2.2.1
        cases qb
        · go_wp2_with fail
          go_meet
          exact ⟨true, rfl, H3, hid (fun h => by cases h)⟩
        go_wp2_with fail
        refine (CC.out _).mono ?_
        rintro e w4 ⟨rfl, hb4⟩
        have H4 := H3.step hb4
        clear r0 r1 r2 r3 H3 hb4
        cases qc
        · go_wp2_with fail
          go_meet
          exact ⟨true, rfl, H4, hid (fun h => by cases h)⟩
        · go_wp2_with fail
          go_meet
          exact ⟨false, rfl, H4, hid (fun _ => ⟨trivial, trivial, trivial⟩)⟩
    · by_cases hbig : 1000 < M
      · have d1 : decide (1000 < ((vs b).length : Int)) = true := by rw [← h3]; simp; omega
        have d1' : decide (1000 < (vs b).length) = true := by rw [← h3]; simpa using hbig
        clear H1 hbig
        go_wp2_with fail
        go_meet
        exact ⟨true, rfl, H0, hid (fun h => by cases h)⟩
      · have d1 : decide (1000 < ((vs b).length : Int)) = false := by rw [← h3]; simp; omega
        have d1' : decide (1000 < (vs b).length) = false := by rw [← h3]; simpa using hbig
        clear hbig H0
        go_wp2_with fail
        refine (CA.out _).mono ?_
        rintro e w2 ⟨rfl, hb2⟩
        have H2 := H1.step hb2
        clear p0 p1 p2 p3 q0 q1 q2 q3 r0 r1 r2 r3 H1 hb2
        obtain ⟨q0, q1, q2, q3, -⟩ := Blk.v4 H2.2.1
        obtain ⟨r0, r1, r2, r3, -⟩ := Blk.v4 H2.2.2.1
        cases qa
        · go_wp2_with fail
          go_meet
          exact ⟨true, rfl, H2, hid (fun h => by cases h)⟩
        go_wp2_with fail
        refine (CB.out _).mono ?_
        rintro e w3 ⟨rfl, hb3⟩
        have H3 := H2.step hb3
        clear q0 q1 q2 q3 r0 r1 r2 r3 H2 hb3
        obtain ⟨r0, r1, r2, r3, -⟩ := Blk.v4 H3.2.2.1
        cases qb
        · go_wp2_with fail
          go_meet
          exact ⟨true, rfl, H3, hid (fun h => by cases h)⟩
        go_wp2_with fail
        refine (CC.out _).mono ?_
        rintro e w4 ⟨rfl, hb4⟩
        have H4 := H3.step hb4
        clear r0 r1 r2 r3 H3 hb4
        cases qc
        · go_wp2_with fail
          go_meet
          exact ⟨true, rfl, H4, hid (fun h => by cases h)⟩
        · go_wp2_with fail
          go_meet
          exact ⟨false, rfl, H4, hid (fun _ => ⟨trivial, trivial, trivial⟩)⟩
    · by_cases hbig : 1000 < M
      · have d1 : decide (1000 < ((vs c).length : Int)) = true := by rw [← h3]; simp; omega
        have d1' : decide (1000 < (vs c).length) = true := by rw [← h3]; simpa using hbig
        clear H1 hbig
        go_wp2_with fail
        go_meet
        exact ⟨true, rfl, H0, hid (fun h => by cases h)⟩
      · have d1 : decide (1000 < ((vs c).length : Int)) = false := by rw [← h3]; simp; omega
        have d1' : decide (1000 < (vs c).length) = false := by rw [← h3]; simpa using hbig
        clear hbig H0
        go_wp2_with fail
        refine (CA.out _).mono ?_
        rintro e w2 ⟨rfl, hb2⟩
        have H2 := H1.step hb2
        clear p0 p1 p2 p3 q0 q1 q2 q3 r0 r1 r2 r3 H1 hb2
        obtain ⟨q0, q1, q2, q3, -⟩ := Blk.v4 H2.2.1
        obtain ⟨r0, r1, r2, r3, -⟩ := Blk.v4 H2.2.2.1
        cases qa
        · go_wp2_with fail
          go_meet
          exact ⟨true, rfl, H2, hid (fun h => by cases h)⟩
        go_wp2_with fail
        refine (CB.out _).mono ?_
        rintro e w3 ⟨rfl, hb3⟩
        have H3 := H2.step hb3
        clear q0 q1 q2 q3 r0 r1 r2 r3 H2 hb3
        obtain ⟨r0, r1, r2, r3, -⟩ := Blk.v4 H3.2.2.1
        cases qb
        · go_wp2_with fail
          go_meet
          exact ⟨true, rfl, H3, hid (fun h => by cases h)⟩
        go_wp2_with fail
        refine (CC.out _).mono ?_
        rintro e w4 ⟨rfl, hb4⟩
        have H4 := H3.step hb4
        clear r0 r1 r2 r3 H3 hb4
        cases qc
        · go_wp2_with fail
          go_meet
          exact ⟨true, rfl, H4, hid (fun h => by cases h)⟩
        · go_wp2_with fail
          go_meet
          exact ⟨false, rfl, H4, hid (fun _ => ⟨trivial, trivial, trivial⟩)⟩
    · by_cases hbig : 1000 < M
      · have d1 : decide (1000 < ((vs a).length : Int)) = true := by rw [← h3]; simp; omega
        have d1' : decide (1000 < (vs a).length) = true := by rw [← h3]; simpa using hbig
        clear H1 hbig
        go_wp2_with fail
        go_meet
        exact ⟨true, rfl, H0, hid (fun h => by cases h)⟩
      · have d1 : decide (1000 < ((vs a).length : Int)) = false := by rw [← h3]; simp; omega
        have d1' : decide (1000 < (vs a).length) = false := by rw [← h3]; simpa using hbig
        clear hbig H0
        go_wp2_with fail
        refine (CA.out _).mono ?_
        rintro e w2 ⟨rfl, hb2⟩
        have H2 := H1.step hb2
        clear p0 p1 p2 p3 q0 q1 q2 q3 r0 r1 r2 r3 H1 hb2
        obtain ⟨q0, q1, q2, q3, -⟩ := Blk.v4 H2.2.1
        obtain ⟨r0, r1, r2, r3, -⟩ := Blk.v4 H2.2.2.1
        cases qa
        · go_wp2_with fail
          go_meet
          exact ⟨true, rfl, H2, hid (fun h => by cases h)⟩
        go_wp2_with fail
        refine (CB.out _).mono ?_
        rintro e w3 ⟨rfl, hb3⟩
        have H3 := H2.step hb3
        clear q0 q1 q2 q3 r0 r1 r2 r3 H2 hb3
        obtain ⟨r0, r1, r2, r3, -⟩ := Blk.v4 H3.2.2.1
        cases qb
        · go_wp2_with fail
          go_meet
          exact ⟨true, rfl, H3, hid (fun h => by cases h)⟩
        go_wp2_with fail
        refine (CC.out _).mono ?_
        rintro e w4 ⟨rfl, hb4⟩
        have H4 := H3.step hb4
        clear r0 r1 r2 r3 H3 hb4
        cases qc
        · go_wp2_with fail
          go_meet
          exact ⟨true, rfl, H4, hid (fun h => by cases h)⟩
        · go_wp2_with fail
          go_meet
          exact ⟨false, rfl, H4, hid (fun _ => ⟨trivial, trivial, trivial⟩)⟩
  case rest =>
  obtain ⟨q, rfl, H4, hq⟩ := hcut
  clear H1
  cases q
  case true =>
    have HB := hid H4.2.2.2
    clear H4 hq
    go_wp2
    go_ret
    exact ⟨rfl, HB.out⟩
  case false =>
  obtain ⟨ha, hb, hc⟩ := hq.out rfl
  clear hq
  obtain ⟨p0, p1, p2, p3, -⟩ := Blk.v4 H4.1
  obtain ⟨q0, q1, q2, q3, -⟩ := Blk.v4 H4.2.1
  obtain ⟨r0, r1, r2, r3, -⟩ := Blk.v4 H4.2.2.1
  have HRT := hid (And.intro ha (And.intro hb hc))
  clear za zb zc ha hb hc
  obtain ⟨X, hX⟩ : ∃ X, X = vOrd a b := ⟨_, rfl⟩
  obtain ⟨Y, hY⟩ : ∃ Y, Y = vOrd b a := ⟨_, rfl⟩
  obtain ⟨Z, hZ⟩ : ∃ Z, Z = vOrd b c := ⟨_, rfl⟩
  obtain ⟨V, hV⟩ : ∃ V, V = vOrd a c := ⟨_, rfl⟩
  obtain ⟨K, hK⟩ : ∃ K, K = vCmp a b := ⟨_, rfl⟩
  obtain ⟨O, hO⟩ : ∃ O, O = vCmpOk a b := ⟨_, rfl⟩
  have hX2 : X = vOrdR a b := by rw [hX]; exact vord_of HRT.out.1 HRT.out.2.1
  have hY2 : Y = vOrdR b a := by rw [hY]; exact vord_of HRT.out.2.1 HRT.out.1
  have hZ2 : Z = vOrdR b c := by rw [hZ]; exact vord_of HRT.out.2.1 HRT.out.2.2
  have hV2 : V = vOrdR a c := by rw [hV]; exact vord_of HRT.out.1 HRT.out.2.2
  have n1 := neg_w (x := X) (y := Y) (by rw [hX2]; exact ord_tri a b) (by rw [hX2, hY2]; exact vOrd_turn a b)
  obtain ⟨n1, n2, n3⟩ := n1
  have HT : Hid (X ≤ 0 → Z ≤ 0 → V ≤ 0) := hid (by rw [hX2, hZ2, hV2]; exact vOrd_trans)
  have HZ0 : Hid (X = 0 ↔ a = b) := hid (by rw [hX2]; exact vOrd_zero HRT.out.1 HRT.out.2.1 FA.out FB.out)
  have HKO : Hid (O = true → K ≠ 0 → X = K) := hid (by
    rw [hO, hK, hX2, (vcmp_of HRT.out.1 HRT.out.2.1).1, (vcmp_of HRT.out.1 HRT.out.2.1).2]
    exact fun h1 h2 => vCmp_ord FA.out FB.out h1 h2)
  clear hX2 hY2 hZ2 hV2 HRT
  have CX := hid (fun wx => vorder_c a b FA.out FB.out wx)
  have CY := hid (fun wx => vorder_c b a FB.out FA.out wx)
  have CZ := hid (fun wx => vorder_c b c FB.out FC.out wx)
  have CV := hid (fun wx => vorder_c a c FA.out FC.out wx)
  have CK := hid (fun wx => vcompare_c a b FA.out FB.out wx)
  rw [← hX] at CX
  rw [← hY] at CY
  rw [← hZ] at CZ
  rw [← hV] at CV
  rw [← hK, ← hO] at CK
  clear hX hY hZ hV hK hO
  go_wp2_with fail
  refine (CX.out _).mono ?_
  rintro e w5 ⟨rfl, hb5⟩
  have H5 := H4.step hb5
  clear p0 p1 p2 p3 q0 q1 q2 q3 r0 r1 r2 r3 H4 hb5
  obtain ⟨p0, p1, p2, p3, -⟩ := Blk.v4 H5.1
  obtain ⟨q0, q1, q2, q3, -⟩ := Blk.v4 H5.2.1
  obtain ⟨r0, r1, r2, r3, -⟩ := Blk.v4 H5.2.2.1
  go_wp2_with fail
  refine (CK.out _).mono ?_
  rintro e w6 ⟨rfl, hb6⟩
  have H6 := H5.step hb6
  clear p0 p1 p2 p3 q0 q1 q2 q3 r0 r1 r2 r3 H5 hb6
  obtain ⟨p0, p1, p2, p3, -⟩ := Blk.v4 H6.1
  obtain ⟨q0, q1, q2, q3, -⟩ := Blk.v4 H6.2.1
  obtain ⟨r0, r1, r2, r3, -⟩ := Blk.v4 H6.2.2.1
  have hko : O = false ∨ (O = true ∧ (K != 0) = false) ∨ (O = true ∧ (K != 0) = true ∧ (K != X) = false) := by
    cases hO : O
    · exact .inl rfl
    · by_cases h0 : K = 0
      · exact .inr (.inl ⟨rfl, by simp [h0]⟩)
      · exact .inr (.inr ⟨rfl, by simpa using h0, by simp [HKO.out hO h0]⟩)
  clear HKO
  by_cases hab : a = b
  · have x0 : (X == 0) = true := by rw [HZ0.out.2 hab]; rfl
    subst hab
    clear HZ0
    rcases hko with h | ⟨h, hg⟩ | ⟨h, hg, hk⟩
    · subst h
      as_aux_lemma =>
      go_wp2_with fail
      refine (CY.out _).mono ?_
      rintro e w7 ⟨rfl, hb7⟩
      have H7 := H6.step hb7
      clear p0 p1 p2 p3 q0 q1 q2 q3 r0 r1 r2 r3 H6 hb7
      obtain ⟨p0, p1, p2, p3, -⟩ := Blk.v4 H7.1
      obtain ⟨q0, q1, q2, q3, -⟩ := Blk.v4 H7.2.1
      obtain ⟨r0, r1, r2, r3, -⟩ := Blk.v4 H7.2.2.1
      by_cases hx : X ≤ 0
      · have dx : decide (X ≤ 0) = true := by simpa using hx
        go_wp2_with fail
        refine (CZ.out _).mono ?_
        rintro e w8 ⟨rfl, hb8⟩
        have H8 := H7.step hb8
        clear p0 p1 p2 p3 q0 q1 q2 q3 r0 r1 r2 r3 H7 hb8
        obtain ⟨p0, p1, p2, p3, -⟩ := Blk.v4 H8.1
        obtain ⟨q0, q1, q2, q3, -⟩ := Blk.v4 H8.2.1
        obtain ⟨r0, r1, r2, r3, -⟩ := Blk.v4 H8.2.2.1
        by_cases hz : Z ≤ 0
        · have dz : decide (Z ≤ 0) = true := by simpa using hz
          have dv : decide (V ≤ 0) = true := by simpa using HT.out hx hz
          clear hx hz
          go_wp2_with fail
          refine (CV.out _).mono ?_
          rintro e w9 ⟨rfl, hb9⟩
          have H9 := H8.step hb9
          clear p0 p1 p2 p3 q0 q1 q2 q3 r0 r1 r2 r3 H8 hb9
          obtain ⟨p0, p1, p2, p3, -⟩ := Blk.v4 H9.1
          obtain ⟨q0, q1, q2, q3, -⟩ := Blk.v4 H9.2.1
          obtain ⟨r0, r1, r2, r3, -⟩ := Blk.v4 H9.2.2.1
          have HB := hid H9.2.2.2
          clear H9
          go_wp2
          go_ret
          exact ⟨rfl, HB.out⟩
        · have dz : decide (Z ≤ 0) = false := by simpa using hz
          have HB := hid H8.2.2.2
          clear H8 hx hz
          go_wp2
          go_ret
          exact ⟨rfl, HB.out⟩
      · have dx : decide (X ≤ 0) = false := by simpa using hx
        have HB := hid H7.2.2.2
        clear H7 hx
        go_wp2
        go_ret
        exact ⟨rfl, HB.out⟩
    · subst h
      as_aux_lemma =>
      go_wp2_with fail
      refine (CY.out _).mono ?_
      rintro e w7 ⟨rfl, hb7⟩
      have H7 := H6.step hb7
      clear p0 p1 p2 p3 q0 q1 q2 q3 r0 r1 r2 r3 H6 hb7
      obtain ⟨p0, p1, p2, p3, -⟩ := Blk.v4 H7.1
      obtain ⟨q0, q1, q2, q3, -⟩ := Blk.v4 H7.2.1
      obtain ⟨r0, r1, r2, r3, -⟩ := Blk.v4 H7.2.2.1
      by_cases hx : X ≤ 0
      · have dx : decide (X ≤ 0) = true := by simpa using hx
        go_wp2_with fail
        refine (CZ.out _).mono ?_
        rintro e w8 ⟨rfl, hb8⟩
        have H8 := H7.step hb8
        clear p0 p1 p2 p3 q0 q1 q2 q3 r0 r1 r2 r3 H7 hb8
        obtain ⟨p0, p1, p2, p3, -⟩ := Blk.v4 H8.1
        obtain ⟨q0, q1, q2, q3, -⟩ := Blk.v4 H8.2.1
        obtain ⟨r0, r1, r2, r3, -⟩ := Blk.v4 H8.2.2.1
        by_cases hz : Z ≤ 0
        · have dz : decide (Z ≤ 0) = true := by simpa using hz
          have dv : decide (V ≤ 0) = true := by simpa using HT.out hx hz
          clear hx hz
          go_wp2_with fail
          refine (CV.out _).mono ?_
          rintro e w9 ⟨rfl, hb9⟩
          have H9 := H8.step hb9
          clear p0 p1 p2 p3 q0 q1 q2 q3 r0 r1 r2 r3 H8 hb9
          obtain ⟨p0, p1, p2, p3, -⟩ := Blk.v4 H9.1
          obtain ⟨q0, q1, q2, q3, -⟩ := Blk.v4 H9.2.1
          obtain ⟨r0, r1, r2, r3, -⟩ := Blk.v4 H9.2.2.1
          have HB := hid H9.2.2.2
          clear H9
          go_wp2
          go_ret
          exact ⟨rfl, HB.out⟩
        · have dz : decide (Z ≤ 0) = false := by simpa using hz
          have HB := hid H8.2.2.2
          clear H8 hx hz
          go_wp2
          go_ret
          exact ⟨rfl, HB.out⟩
      · have dx : decide (X ≤ 0) = false := by simpa using hx
        have HB := hid H7.2.2.2
        clear H7 hx
        go_wp2
        go_ret
        exact ⟨rfl, HB.out⟩
    · subst h
      as_aux_lemma =>
      go_wp2_with fail
      refine (CY.out _).mono ?_
      rintro e w7 ⟨rfl, hb7⟩
      have H7 := H6.step hb7
      clear p0 p1 p2 p3 q0 q1 q2 q3 r0 r1 r2 r3 H6 hb7
      obtain ⟨p0, p1, p2, p3, -⟩ := Blk.v4 H7.1
      obtain ⟨q0, q1, q2, q3, -⟩ := Blk.v4 H7.2.1
      obtain ⟨r0, r1, r2, r3, -⟩ := Blk.v4 H7.2.2.1
      by_cases hx : X ≤ 0
      · have dx : decide (X ≤ 0) = true := by simpa using hx
        go_wp2_with fail
        refine (CZ.out _).mono ?_
        rintro e w8 ⟨rfl, hb8⟩
        have H8 := H7.step hb8
        clear p0 p1 p2 p3 q0 q1 q2 q3 r0 r1 r2 r3 H7 hb8
        obtain ⟨p0, p1, p2, p3, -⟩ := Blk.v4 H8.1
        obtain ⟨q0, q1, q2, q3, -⟩ := Blk.v4 H8.2.1
        obtain ⟨r0, r1, r2, r3, -⟩ := Blk.v4 H8.2.2.1
        by_cases hz : Z ≤ 0
        · have dz : decide (Z ≤ 0) = true := by simpa using hz
          have dv : decide (V ≤ 0) = true := by simpa using HT.out hx hz
          clear hx hz
          go_wp2_with fail
          refine (CV.out _).mono ?_
          rintro e w9 ⟨rfl, hb9⟩
          have H9 := H8.step hb9
          clear p0 p1 p2 p3 q0 q1 q2 q3 r0 r1 r2 r3 H8 hb9
          obtain ⟨p0, p1, p2, p3, -⟩ := Blk.v4 H9.1
          obtain ⟨q0, q1, q2, q3, -⟩ := Blk.v4 H9.2.1
          obtain ⟨r0, r1, r2, r3, -⟩ := Blk.v4 H9.2.2.1
          have HB := hid H9.2.2.2
          clear H9
          go_wp2
          go_ret
          exact ⟨rfl, HB.out⟩
        · have dz : decide (Z ≤ 0) = false := by simpa using hz
          have HB := hid H8.2.2.2
          clear H8 hx hz
          go_wp2
          go_ret
          exact ⟨rfl, HB.out⟩
      · have dx : decide (X ≤ 0) = false := by simpa using hx
        have HB := hid H7.2.2.2
        clear H7 hx
        go_wp2
        go_ret
        exact ⟨rfl, HB.out⟩
  · have x0 : (X == 0) = false := by simpa using fun e => hab (HZ0.out.1 e)
    have heq := eq_no hab
    clear HZ0 hab
    rcases hko with h | ⟨h, hg⟩ | ⟨h, hg, hk⟩
    · subst h
      as_aux_lemma =>
      go_wp2_with fail
      refine (CY.out _).mono ?_
      rintro e w7 ⟨rfl, hb7⟩
      have H7 := H6.step hb7
      clear p0 p1 p2 p3 q0 q1 q2 q3 r0 r1 r2 r3 H6 hb7
      obtain ⟨p0, p1, p2, p3, -⟩ := Blk.v4 H7.1
      obtain ⟨q0, q1, q2, q3, -⟩ := Blk.v4 H7.2.1
      obtain ⟨r0, r1, r2, r3, -⟩ := Blk.v4 H7.2.2.1
      by_cases hx : X ≤ 0
      · have dx : decide (X ≤ 0) = true := by simpa using hx
        go_wp2_with fail
        refine (CZ.out _).mono ?_
        rintro e w8 ⟨rfl, hb8⟩
        have H8 := H7.step hb8
        clear p0 p1 p2 p3 q0 q1 q2 q3 r0 r1 r2 r3 H7 hb8
        obtain ⟨p0, p1, p2, p3, -⟩ := Blk.v4 H8.1
        obtain ⟨q0, q1, q2, q3, -⟩ := Blk.v4 H8.2.1
        obtain ⟨r0, r1, r2, r3, -⟩ := Blk.v4 H8.2.2.1
        by_cases hz : Z ≤ 0
        · have dz : decide (Z ≤ 0) = true := by simpa using hz
          have dv : decide (V ≤ 0) = true := by simpa using HT.out hx hz
          clear hx hz
          go_wp2_with fail
          refine (CV.out _).mono ?_
          rintro e w9 ⟨rfl, hb9⟩
          have H9 := H8.step hb9
          clear p0 p1 p2 p3 q0 q1 q2 q3 r0 r1 r2 r3 H8 hb9
          obtain ⟨p0, p1, p2, p3, -⟩ := Blk.v4 H9.1
          obtain ⟨q0, q1, q2, q3, -⟩ := Blk.v4 H9.2.1
          obtain ⟨r0, r1, r2, r3, -⟩ := Blk.v4 H9.2.2.1
          have HB := hid H9.2.2.2
          clear H9
          go_wp2
          go_ret
          exact ⟨rfl, HB.out⟩
        · have dz : decide (Z ≤ 0) = false := by simpa using hz
          have HB := hid H8.2.2.2
          clear H8 hx hz
          go_wp2
          go_ret
          exact ⟨rfl, HB.out⟩
      · have dx : decide (X ≤ 0) = false := by simpa using hx
        have HB := hid H7.2.2.2
        clear H7 hx
        go_wp2
        go_ret
        exact ⟨rfl, HB.out⟩
    · subst h
      as_aux_lemma =>
      go_wp2_with fail
      refine (CY.out _).mono ?_
      rintro e w7 ⟨rfl, hb7⟩
      have H7 := H6.step hb7
      clear p0 p1 p2 p3 q0 q1 q2 q3 r0 r1 r2 r3 H6 hb7
      obtain ⟨p0, p1, p2, p3, -⟩ := Blk.v4 H7.1
      obtain ⟨q0, q1, q2, q3, -⟩ := Blk.v4 H7.2.1
      obtain ⟨r0, r1, r2, r3, -⟩ := Blk.v4 H7.2.2.1
      by_cases hx : X ≤ 0
      · have dx : decide (X ≤ 0) = true := by simpa using hx
        go_wp2_with fail
        refine (CZ.out _).mono ?_
        rintro e w8 ⟨rfl, hb8⟩
        have H8 := H7.step hb8
        clear p0 p1 p2 p3 q0 q1 q2 q3 r0 r1 r2 r3 H7 hb8
        obtain ⟨p0, p1, p2, p3, -⟩ := Blk.v4 H8.1
        obtain ⟨q0, q1, q2, q3, -⟩ := Blk.v4 H8.2.1
        obtain ⟨r0, r1, r2, r3, -⟩ := Blk.v4 H8.2.2.1
        by_cases hz : Z ≤ 0
        · have dz : decide (Z ≤ 0) = true := by simpa using hz
          have dv : decide (V ≤ 0) = true := by simpa using HT.out hx hz
          clear hx hz
          go_wp2_with fail
          refine (CV.out _).mono ?_
          rintro e w9 ⟨rfl, hb9⟩
          have H9 := H8.step hb9
          clear p0 p1 p2 p3 q0 q1 q2 q3 r0 r1 r2 r3 H8 hb9
          obtain ⟨p0, p1, p2, p3, -⟩ := Blk.v4 H9.1
          obtain ⟨q0, q1, q2, q3, -⟩ := Blk.v4 H9.2.1
          obtain ⟨r0, r1, r2, r3, -⟩ := Blk.v4 H9.2.2.1
          have HB := hid H9.2.2.2
          clear H9
          go_wp2
          go_ret
          exact ⟨rfl, HB.out⟩
        · have dz : decide (Z ≤ 0) = false := by simpa using hz
          have HB := hid H8.2.2.2
          clear H8 hx hz
          go_wp2
          go_ret
          exact ⟨rfl, HB.out⟩
      · have dx : decide (X ≤ 0) = false := by simpa using hx
        have HB := hid H7.2.2.2
        clear H7 hx
        go_wp2
        go_ret
        exact ⟨rfl, HB.out⟩
    · subst h
      as_aux_lemma =>
      go_wp2_with fail
      refine (CY.out _).mono ?_
      rintro e w7 ⟨rfl, hb7⟩
      have H7 := H6.step hb7
      clear p0 p1 p2 p3 q0 q1 q2 q3 r0 r1 r2 r3 H6 hb7
      obtain ⟨p0, p1, p2, p3, -⟩ := Blk.v4 H7.1
      obtain ⟨q0, q1, q2, q3, -⟩ := Blk.v4 H7.2.1
      obtain ⟨r0, r1, r2, r3, -⟩ := Blk.v4 H7.2.2.1
      by_cases hx : X ≤ 0
      · have dx : decide (X ≤ 0) = true := by simpa using hx
        go_wp2_with fail
        refine (CZ.out _).mono ?_
        rintro e w8 ⟨rfl, hb8⟩
        have H8 := H7.step hb8
        clear p0 p1 p2 p3 q0 q1 q2 q3 r0 r1 r2 r3 H7 hb8
        obtain ⟨p0, p1, p2, p3, -⟩ := Blk.v4 H8.1
        obtain ⟨q0, q1, q2, q3, -⟩ := Blk.v4 H8.2.1
        obtain ⟨r0, r1, r2, r3, -⟩ := Blk.v4 H8.2.2.1
        by_cases hz : Z ≤ 0
        · have dz : decide (Z ≤ 0) = true := by simpa using hz
          have dv : decide (V ≤ 0) = true := by simpa using HT.out hx hz
          clear hx hz
          go_wp2_with fail
          refine (CV.out _).mono ?_
          rintro e w9 ⟨rfl, hb9⟩
          have H9 := H8.step hb9
          clear p0 p1 p2 p3 q0 q1 q2 q3 r0 r1 r2 r3 H8 hb9
          obtain ⟨p0, p1, p2, p3, -⟩ := Blk.v4 H9.1
          obtain ⟨q0, q1, q2, q3, -⟩ := Blk.v4 H9.2.1
          obtain ⟨r0, r1, r2, r3, -⟩ := Blk.v4 H9.2.2.1
          have HB := hid H9.2.2.2
          clear H9
          go_wp2
          go_ret
          exact ⟨rfl, HB.out⟩
        · have dz : decide (Z ≤ 0) = false := by simpa using hz
          have HB := hid H8.2.2.2
          clear H8 hx hz
          go_wp2
          go_ret
          exact ⟨rfl, HB.out⟩
      · have dx : decide (X ≤ 0) = false := by simpa using hx
        have HB := hid H7.2.2.2
        clear H7 hx
        go_wp2
        go_ret
        exact ⟨rfl, HB.out⟩
theorem walkValueOrder (k1 n1 : Int) (s1 : ByteArray) (f1 : Int) (k2 n2 : Int) (s2 : ByteArray) (f2 : Int) (k3 n3 : Int) (s3 : ByteArray) (f3 : Int) (w : World) (_ : (Lit.int .i64 k1).wf = true) (h1 : (Lit.int .i64 n1).wf = true) (_ : s1.size ≤ maxLen) (g1 : (Lit.int .u64 f1).wf = true) (_ : (Lit.int .i64 k2).wf = true) (h2 : (Lit.int .i64 n2).wf = true) (_ : s2.size ≤ maxLen) (g2 : (Lit.int .u64 f2).wf = true) (_ : (Lit.int .i64 k3).wf = true) (h3 : (Lit.int .i64 n3).wf = true) (_ : s3.size ≤ maxLen) (g3 : (Lit.int .u64 f3).wf = true) (hw : Lw w) :
    Calls Tryd.prog 3 #[.agg #[.int .i64 k1, .int .i64 n1, .string s1, .int .u64 f1], .agg #[.int .i64 k2, .int .i64 n2, .string s2, .int .u64 f2], .agg #[.int .i64 k3, .int .i64 n3, .string s3, .int .u64 f3]] w fun e w' => e = .returned (.bool true) ∧ Below w.heap.size w w' := by
  obtain ⟨a, ea, fa, -, -⟩ := vl_of (k := k1) (s := s1) h1 g1
  obtain ⟨b, eb, fb, -, -⟩ := vl_of (k := k2) (s := s2) h2 g2
  obtain ⟨c, ec, fc, -, -⟩ := vl_of (k := k3) (s := s3) h3 g3
  rw [ea, eb, ec]
  exact coreValueOrder a b c w fa fb fc hw
end Go.Proofs.YtomgpkklbhdgiaaDoor
