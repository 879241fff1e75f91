/- The walk of ValuePuts: for all bytes and every value the law answers true. -/
import Derived.Test.YtfjpnkchldjjmaaGreatDoorVlPutR
import Derived.Test.YtfjpnkchldjjmaaGreatDoorVlGet
import Derived.Test.YtfjpnkchldjjmaaGreatDoorVlEq
namespace Go.Proofs.YtfjpnkchldjjmaaGreatDoor
open Go.RowKit

theorem pstr_app (a b : List UInt8) : str a ++ str b = str (a ++ b) := ByteArray.mk_append_mk a b
theorem put_len (v : Vl) (n1 : -9223372036854775808 ≤ vn v) (n2 : vn v ≤ 9223372036854775807) : (vPutR (vRt v)).length ≤ 100 := by
  have h1 := vRt_n1 n1
  have h2 := vRt_n2 n2
  rcases vRight_cases (vRt_right v) with h | ⟨n, h⟩ | h | h | ⟨s, hs, h⟩ | ⟨f, hc, h⟩
  · rw [h]; decide
  · rw [h] at h1 h2 ⊢
    have := nat_len_u64 (fold_lt h1 h2)
    show (1 :: nat (fold n)).length ≤ 100
    change (nat (fold n)).length ≤ 10 at this
    rw [List.length_cons]; omega
  · rw [h]; decide
  · rw [h]; decide
  · rw [h]
    have := nat_len_u64 (n := s.length) (by omega)
    show (3 :: (nat s.length ++ s)).length ≤ 100
    rw [List.length_cons, List.length_append]; omega
  · rw [h]
    show (4 :: leN 8 f).length ≤ 100
    rw [List.length_cons, leN_len]; decide
theorem argNil {k : IntKind} {w : World} {a : Option Addr} {len cap : Nat} {zs : List Int} (h : IsRow k w a len cap zs) : a = none → len = 0 ∧ cap = 0 := by
  rcases h with ⟨rfl, rfl, rfl, rfl⟩ | ⟨x, rfl, _⟩
  · exact fun _ => ⟨rfl, rfl⟩
  · exact fun e => by cases e
theorem puts_long (A : Option Addr) (n c : Nat) (v : Vl) (w : World) (h : 1000 < max n (vs v).length) (hw : Lw w) :
    Calls Tryz.prog 3 #[.slice A n c, (.agg #[.int .i64 (vk v), .int .i64 (vn v), .string (str (vs v)), .int .u64 ((vf v : Nat) : Int)])] w fun e w' => e = .returned (.bool true) ∧ Below w.heap.size w w' := by
  have HW := hid hw
  obtain ⟨m, hm, m1, m2, m3, m4, m5⟩ := max_forms n (vs v).length
  have e1 : decide ((1000 : Int) < (m : Int)) = true := by simp; omega
  have hz := str_size (vs v)
  clear h hm hw
  generalize str (vs v) = ss at *
  go_enter Tryz.func3, Tryz.ntmps3
  go_wp2_with fail
  refine (first_c _ (HW.out.below (bel1 w _))).mono ?_
  rintro e w1 ⟨rfl, hb1⟩
  have HB1 := hid ((bel1 w _).trans (hb1.mono (by simp)))
  have x := (Blk.new w 26 _).bel hb1 (by simp)
  obtain ⟨x0, x1, x2, x3, -⟩ := Blk.v4 x
  clear x hb1
  go_wp2
  go_ret
  exact ⟨rfl, HB1.out⟩

set_option maxRecDepth 20000 in
set_option maxHeartbeats 8000000 in
theorem puts_core (A : Option Addr) (n c : Nat) (l : List UInt8) (v : Vl) (w : World) (hA : A = none → n = 0 ∧ c = 0) (hc : n ≤ c) (hr : Bts w 0 w.heap.size A n l) (hm : max n (vs v).length ≤ 1000) (hf : vf v < 18446744073709551616) (n1 : -9223372036854775808 ≤ vn v) (n2 : vn v ≤ 9223372036854775807) (hw : Lw w) :
    Calls Tryz.prog 3 #[.slice A n c, (.agg #[.int .i64 (vk v), .int .i64 (vn v), .string (str (vs v)), .int .u64 ((vf v : Nat) : Int)])] w fun e w' => e = .returned (.bool true) ∧ Below w.heap.size w w' := by
  have HW := hid hw
  have HR := hid hr
  have HLN := hid hr.len
  have PU := hid (fun wx (h : Bts wx 0 wx.heap.size A n l) => put_c A n c l v wx hA hc h (by omega) hf n1 n2)
  have PR := hid (fun wx => rput_c v wx hf n1 n2)
  have RR := hid (fun wx => rRight_c v hf wx)
  have HG : Hid (vGet (vPutR (vRt v)) = some (vRt v, (vPutR (vRt v)).length)) := hid (by
    have := vGet_put (vRt_right v) (vRt_f hf) (vRt_n1 n1) (vRt_n2 n2) []
    rwa [List.append_nil] at this)
  have HPL : Hid ((vPutR (vRt v)).length ≤ 100 ∧ 1 ≤ (vPutR (vRt v)).length) := hid ⟨put_len v n1 n2, by rw [put_k]; simp⟩
  have HEQ : Hid (vRight v = true → vRt v = v) := hid vRt_of
  have HNE : Hid (vRight v = false → vRt v = vNull ∧ vRt v ≠ v) := hid (fun h => ⟨vRt_no h, fun e => by have := vRt_right v; rw [e, h] at this; cases this⟩)
  obtain ⟨m, hmm, m1, m2, m3, m4, m5⟩ := max_forms n (vs v).length
  have e1 : decide ((1000 : Int) < (m : Int)) = false := by simp; omega
  have hz := str_size (vs v)
  have HN : Hid (n ≤ 1000) := hid (by omega)
  have HCS : Hid (cs4 v = #[.int .i64 (vk v), .int .i64 (vn v), .string (str (vs v)), .int .u64 ((vf v : Nat) : Int)]) := hid rfl
  clear hA hc hr hm hf n1 n2 hw hmm
  go_enter Tryz.func3, Tryz.ntmps3
  go_wp2_with fail
  refine (first_c _ (HW.out.below (bel1 w _))).mono ?_
  rintro e w1 ⟨rfl, hb1⟩
  have HB1 := hid ((bel1 w _).trans (hb1.mono (by simp)))
  have HX1 := hid ((Blk.new w 26 #[.int .i64 (vk v), .int .i64 (vn v), .string (str (vs v)), .int .u64 ((vf v : Nat) : Int)]).bel hb1 (by simp))
  obtain ⟨x0, x1, x2, x3, -⟩ := Blk.v4 HX1.out
  clear hb1
  go_wp2_with fail
  refine (PU.out w1 ((HR.out.below HB1.out (Nat.le_refl _)).wide (Nat.le_refl _) HB1.out.size)).mono ?_
  intro e w2 hrow
  obtain ⟨A2, n2, c2, rfl, hn2, hc2, ho2, hbt2, hb2⟩ := hrow.out
  have HB2 : Hid (Below w.heap.size w w2) := hid (HB1.out.trans (hb2.mono HB1.out.size))
  have HX2 := hid (HX1.out.bel hb2 HX1.out.lt)
  have HT2 := hid hbt2
  have HC2 := hid hc2
  have CP := hid (fun wx (hx : Below w2.heap.size w2 wx) => run_str (P := Tryz.prog) (c := c2) 22 9 5 Tryz.underlying22 Tryz.underlying5 Tryz.underlying9 (hbt2.below hx (Nat.le_refl _)))
  have CB := hid (fun wx (hx : Below w2.heap.size w2 wx) => run_str (P := Tryz.prog) (c := c) 22 9 5 Tryz.underlying22 Tryz.underlying5 Tryz.underlying9 (HR.out.below (HB2.out.trans (hx.mono HB2.out.size)) (Nat.le_refl _)))
  have HVL := hid HX2.out.lt
  have HN2 := hn2
  clear hrow ho2 hbt2 hb2 hc2 hn2 x0 x1 x2 x3 HX1 HB1 PU HR
  go_wp2_with fail
  refine wp_region_held_drew (S := fun wx => Blk wx w.heap.size 26 #[.int .i64 (vk v), .int .i64 (vn v), .string (str (vs v)), .int .u64 ((vf v : Nat) : Int)] ∧ Below w2.heap.size w2 wx) (by kernel_rfl) ⟨HX2.out.bel (Below.refl w2.heap.size w2).drew HVL.out, (Below.refl _ _).drew⟩ (fun HS => ?_)
  refine wpAnyH_take (i := 0) (oi := ?oi0) (v := ?v0) ?hi0 (by kernel_rfl) (by kernel_rfl) (by kernel_rfl) ?hQ0 ?hy0 HS ?rest0
  case hi0 => simp only [List.getElem?_toArray, List.getElem?_cons_zero]; exact rfl
  case hQ0 => exact fun _ _ _ h => h
  case hy0 =>
    refine Or.inl ⟨by rfl, ?_⟩
    intro wS hSw
    go_simp
    try with_reducible rfl
  try simp only [Act.put, List.setIfInBounds_toArray, List.set_cons_zero, List.set_cons_succ]
  refine wpAnyH_take (i := 2) (oi := ?oi2) (v := ?v2) ?hi2 (by kernel_rfl) (by kernel_rfl) (by kernel_rfl) ?hQ2 ?hy2 HS ?rest2
  case hi2 => simp only [List.getElem?_toArray, List.getElem?_cons_succ, List.getElem?_cons_zero]; exact rfl
  case hQ2 => exact fun _ _ _ h => h
  case hy2 =>
    refine Or.inl ⟨by rfl, ?_⟩
    intro wS hSw
    go_simp
    try with_reducible rfl
  try simp only [Act.put, List.setIfInBounds_toArray, List.set_cons_zero, List.set_cons_succ]
  refine wpAnyH_take (i := 1) (oi := ?oi1) (v := ?v1) ?hi1 (by kernel_rfl) (by kernel_rfl) (by kernel_rfl) ?hQ1 ?hy1 HS ?rest1
  case hi1 => simp only [List.getElem?_toArray, List.getElem?_cons_succ, List.getElem?_cons_zero]; exact rfl
  case hQ1 => exact fun _ _ _ h => h
  case hy1 =>
    refine Or.inl ⟨by rfl, ?_⟩
    intro wS hSw
    have hcv := CP.out wS hSw.2
    go_simp
    try with_reducible rfl
  try simp only [Act.put, List.setIfInBounds_toArray, List.set_cons_zero, List.set_cons_succ]
  refine wpAnyH_take (i := 3) (oi := ?oi3) (v := ?v3) ?hi3 (by kernel_rfl) (by kernel_rfl) (by kernel_rfl) ?hQ3 ?hy3 HS ?rest3
  case hi3 => simp only [List.getElem?_toArray, List.getElem?_cons_succ, List.getElem?_cons_zero]; exact rfl
  case hQ3 => exact fun _ _ _ h => h
  case hy3 =>
    refine Or.inl ⟨by rfl, ?_⟩
    intro wS hSw
    have hcv := CB.out wS hSw.2
    go_simp
    try with_reducible rfl
  try simp only [Act.put, List.setIfInBounds_toArray, List.set_cons_zero, List.set_cons_succ]
  refine wpAnyH_take (i := 4) (oi := ?oi4) (v := ?v4) ?hi4 (by kernel_rfl) (by kernel_rfl) (by kernel_rfl) ?hQ4 ?hy4 HS ?rest4
  case hi4 => simp only [List.getElem?_toArray, List.getElem?_cons_succ, List.getElem?_cons_zero]; exact rfl
  case hQ4 => exact fun _ _ _ h => h
  case hy4 =>
    refine Or.inl ⟨by rfl, ?_⟩
    intro wS hSw
    obtain ⟨p0, p1, p2, p3, -⟩ := Blk.v4 hSw.1
    go_simp
    try with_reducible rfl
  try simp only [Act.put, List.setIfInBounds_toArray, List.set_cons_zero, List.set_cons_succ]
  refine wpAnyH_ready (rs := [5]) (by kernel_rfl) (by simp) ?_
  refine AllReadyH.cons (o := ?o5) ?ho5 (fun K hK => ?step5) AllReadyH.nil
  case ho5 => simp only [List.getElem?_toArray, List.getElem?_cons_succ, List.getElem?_cons_zero]; exact rfl
  go_simp
  refine (PR.out _).mono ?_
  intro e w8 hrow8
  obtain ⟨A8, n8, c8, rfl, hn8, hc8, ho8, hbt8, hb8⟩ := hrow8.out
  have hcv8 := run_str (P := Tryz.prog) (c := c8) 22 9 5 Tryz.underlying22 Tryz.underlying5 Tryz.underlying9 hbt8
  refine hK.out _ _ ⟨HS.1.bel hb8 HS.1.lt, HS.2.trans (hb8.mono HS.2.size)⟩ (fun HS => ?_)
  clear hK K
  try simp only [Act.put, List.setIfInBounds_toArray, List.set_cons_zero, List.set_cons_succ]
  refine wpAnyH_ready (rs := [6]) (by kernel_rfl) (by simp) ?_
  refine AllReadyH.cons (o := ?o6) ?ho6 (fun K hK => ?step6) AllReadyH.nil
  case ho6 => simp only [List.getElem?_toArray, List.getElem?_cons_succ, List.getElem?_cons_zero]; exact rfl
  go_simp
  refine hK.out _ _ HS (fun HS => ?_)
  clear hK K
  try simp only [Act.put, List.setIfInBounds_toArray, List.set_cons_zero, List.set_cons_succ]
  have happ := pstr_app l (vPutR (vRt v))
  have hse2 : ((str (l ++ vPutR (vRt v))).toList == (str (l ++ vPutR (vRt v))).toList) = true := by simp
  have hno : ¬ (9223372036854775807 < (str l).size + (str (vPutR (vRt v))).size) := by rw [str_size, str_size, HLN.out]; have := HPL.out; have := HN.out; omega
  refine wpAnyH_take (i := 7) (oi := ?oi7) (v := ?v7) ?hi7 (by kernel_rfl) (by kernel_rfl) (by kernel_rfl) ?hQ7 ?hy7 HS ?rest7
  case hi7 => simp only [List.getElem?_toArray, List.getElem?_cons_succ, List.getElem?_cons_zero]; exact rfl
  case hQ7 => exact fun _ _ _ h => h
  case hy7 =>
    refine Or.inl ⟨by rfl, ?_⟩
    intro wS hSw
    go_simp
    try with_reducible rfl
  try simp only [Act.put, List.setIfInBounds_toArray, List.set_cons_zero, List.set_cons_succ]
  refine wpAnyH_take (i := 8) (oi := ?oi8) (v := ?v8) ?hi8 (by kernel_rfl) (by kernel_rfl) (by kernel_rfl) ?hQ8 ?hy8 HS ?rest8
  case hi8 => simp only [List.getElem?_toArray, List.getElem?_cons_succ, List.getElem?_cons_zero]; exact rfl
  case hQ8 => exact fun _ _ _ h => h
  case hy8 =>
    refine Or.inl ⟨by rfl, ?_⟩
    intro wS hSw
    go_simp
    try with_reducible rfl
  try simp only [Act.put, List.setIfInBounds_toArray, List.set_cons_zero, List.set_cons_succ]
  refine wpAnyH_done (by kernel_rfl) ?_ _
  have HX9 := hid HS.1
  have HB9 := hid HS.2
  clear HS hrow8 hcv8 hn8 hc8 ho8 hbt8 hb8 CP CB HX2
  generalize hw9 : w8 = w9 at *
  clear hw9
  generalize hP : vPutR (vRt v) = P at *
  have HPE := hid hP
  clear hP
  have HQ : Hid (n ≤ n2 ∧ n2 ≤ c2 ∧ n2 - n ≤ 100) := hid (by have := HN2.out; have := HLN.out; have := HPL.out; have := HC2.out; simp at *; omega)
  have hcn : ¬ c2 = n := by have := HN2.out; have := HLN.out; have := HPL.out; have := HC2.out; simp at *; omega
  have s1 : (n : Int) ≤ (n2 : Int) := by have := HQ.out; omega
  have s2 : (n2 : Int) ≤ (c2 : Int) := by have := HQ.out; omega
  have s0 : (0 : Int) ≤ (n : Int) := by omega
  have HT9 : Hid (Bts w9 0 w9.heap.size (A2.map (·.add n)) (n2 - n) P) := hid (by
    have h1 := ((HT2.out.below HB9.out (Nat.le_refl _)).wide (Nat.zero_le _) HB9.out.size).cut HQ.out.1 HQ.out.2.1
    rwa [List.drop_left' HLN.out, if_neg hcn] at h1)
  have HBW : Hid (Below w.heap.size w w9) := hid (HB2.out.trans (HB9.out.mono HB2.out.size))
  clear happ hse2 hno HB9 HB2 HT2 HN2 HC2 HLN m1 m2 m3 m4 m5 e1 hz
  as_aux_lemma =>
  go_wp2_with fail
  refine (open_c _ (n2 - n) _ P w9 HT9.out (by have := HQ.out; omega)).mono ?_
  rintro e w10 ⟨g, rfl, hrd, hgs, hb10⟩
  have HX10 := hid (HX9.out.bel hb10 HX9.out.lt)
  have HW10 : Hid (Below w.heap.size w w10) := hid (HBW.out.trans (hb10.mono HBW.out.size))
  have HGL : Hid (w.heap.size < g) := hid (by obtain ⟨_, _, _, _, _, h1, _⟩ := hrd; have := HX9.out.lt; omega)
  have HRD := hid hrd
  clear hrd hgs hb10 HX9 HBW HT9 s1 s2 s0 HQ hcn
  go_wp2_with fail
  refine (get_c w10 _ g P HRD.out).mono ?_
  rintro e w11 ⟨hg11, hcase⟩
  have HX11 := hid (blk_gr HX10.out hg11 (by have := HGL.out; omega))
  have HW11 : Hid (Below w.heap.size w w11) := hid (HW10.out.grown hg11 HW10.out.size (fun k hk => by injection hk with hk; have := HGL.out; omega))
  rcases hcase with ⟨v', k', hv', rfl, hrd'⟩ | ⟨hv', _⟩
  · rw [HG.out] at hv'
    injection hv' with hv'
    injection hv' with hv1 hv2
    subst hv1
    subst hv2
    rw [List.drop_length] at hrd'
    generalize hrv : vRt v = rv at *
    have HRV := hid hrv
    have DN := hid (fun wx (hx : Below w11.heap.size w11 wx) => done_good wx _ g [] (rd_bel hrd' hx))
    clear hrd' hrv hg11 HX10 HW10 HRD HG
    have HX12 := hid (HX11.out.old (.cells #[.int .i64 (vk rv), .int .i64 (vn rv), .string (str (vs rv)), .int .u64 ((vf rv : Nat) : Int)] 26))
    have HY12 := hid (Blk.new w11 26 #[.int .i64 (vk rv), .int .i64 (vn rv), .string (str (vs rv)), .int .u64 ((vf rv : Nat) : Int)])
    have HB12 := hid (bel1 w11 (.cells #[.int .i64 (vk rv), .int .i64 (vn rv), .string (str (vs rv)), .int .u64 ((vf rv : Nat) : Int)] 26))
    go_upto_region 10 with fail
    generalize w11.alloc (.cells #[.int .i64 (vk rv), .int .i64 (vn rv), .string (str (vs rv)), .int .u64 ((vf rv : Nat) : Int)] 26) = w12 at *
    obtain ⟨x0, x1, x2, x3, -⟩ := Blk.v4 HX12.out
    obtain ⟨y0, y1, y2, y3, -⟩ := Blk.v4 HY12.out
    have HW12 : Hid (Below w.heap.size w w12) := hid (HW11.out.trans (HB12.out.mono HW11.out.size))
    have DN12 := DN.out w12 HB12.out
    clear HX12 HX11 HW11 HB12 DN
    rcases hv : vRight v with _ | _
    · have h0 := HNE.out hv
      have EQ := hid (fun wx => eq_no (a := rv) (b := v) h0.2 wx)
      have EN : Hid (∀ wx : World, (Op.equalIn 10000 26 (.agg #[.int .i64 (vk rv), .int .i64 (vn rv), .string (str (vs rv)), .int .u64 ((vf rv : Nat) : Int)]) (.agg #[.int .i64 0, .int .i64 0, .string ⟨#[]⟩, .int .u64 0])).run Tryz.prog wx = .ok true wx) := hid (fun wx => by have := eq_val rv vNull wx; rw [decide_eq_true h0.1] at this; exact this)
      have RF := RR.out w12
      rw [hv] at RF
      have eq1 := EQ.out
      have eq2 := EN.out
      clear hv h0 HNE HEQ EQ EN
      go_wp2_with fail
      refine DN12.mono ?_
      rintro e w' ⟨rfl, rfl⟩
      go_wp2_with fail
      refine RF.mono ?_
      rintro e w13 ⟨rfl, hb13⟩
      have HW13 := hid (HW12.out.trans (hb13.mono HW12.out.size))
      obtain ⟨y0, y1, y2, y3, -⟩ := Blk.v4 (HY12.out.bel hb13 HY12.out.lt)
      clear hb13 HY12 HW12
      go_wp2
      go_ret
      exact ⟨rfl, HW13.out⟩
    · as_aux_lemma =>
      have h0 := HEQ.out hv
      have EQ := hid (fun wx => by have := eq_val rv v wx; rw [decide_eq_true h0] at this; exact this)
      have eq1 := EQ.out
      clear hv h0 HNE HEQ EQ HRV RR
      go_wp2_with fail
      refine DN12.mono ?_
      rintro e w' ⟨rfl, rfl⟩
      go_wp2
      go_ret
      exact ⟨rfl, HW12.out⟩
  · rw [HG.out] at hv'
    cases hv'

theorem walkValuePuts (a0 : Option Addr) (n0 c0 : Nat) (z0 : List Int) (k1 n1 : Int) (s1 : ByteArray) (f1 : Int) (w : World) (w0 : IsRow .u8 w a0 n0 c0 z0) (_ : (Lit.int .i64 k1).wf = true) (h1 : (Lit.int .i64 n1).wf = true) (_ : s1.size ≤ maxLen) (g1 : (Lit.int .u64 f1).wf = true) (hw : Lw w) :
    Calls Tryz.prog 3 #[.slice a0 n0 c0, .agg #[.int .i64 k1, .int .i64 n1, .string s1, .int .u64 f1]] w fun e w' => e = .returned (.bool true) ∧ Below w.heap.size w w' := by
  obtain ⟨v, ev, fv, nv, nv2⟩ := vl_of (k := k1) (s := s1) h1 g1
  obtain ⟨l, hb, hc, _⟩ := argB w0
  rw [ev]
  by_cases hm : max n0 (vs v).length ≤ 1000
  · exact puts_core a0 n0 c0 l v w (argNil w0) hc hb hm fv nv nv2 hw
  · exact puts_long a0 n0 c0 v w (by omega) hw
end Go.Proofs.YtfjpnkchldjjmaaGreatDoor
