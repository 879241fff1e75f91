/- What the document's own answers for stores (strongroomref09) return: without, with, Name. Nothing is assumed. -/
import Derived.Test.YtdkbpjkoiegflaaGreatStBy
namespace Go.Proofs.YtdkbpjkoiegflaaGreat
open Go.RowKit

theorem rs_meas {k m j : Nat} (h : k = m - j) (hj : j < m) : m - (j + 1) < k := by omega
theorem rs_w {k m : Nat} (h : m ≤ 100000) (hk : k < m) : wrap64 ((k : Int) + 1) = ((k + 1 : Nat) : Int) := by unfold wrap64; omega
theorem without_snoc {l : List Bb} {j : Nat} (h : j < l.length) (nm : List UInt8) : without (l.take (j + 1)) nm = if l[j].nm = nm then without (l.take j) nm else without (l.take j) nm ++ [l[j]] := by
  unfold without
  rw [List.take_succ_eq_append_getElem h, List.filter_append]
  by_cases e : l[j].nm = nm
  · rw [if_pos e, List.filter_cons_of_neg (by simpa using e)]; simp
  · rw [if_neg e, List.filter_cons_of_pos (by simpa using e)]; simp
set_option maxRecDepth 100000 in
set_option maxHeartbeats 16000000 in
theorem rwithout_c (A : Option Addr) (n c : Nat) (l : List Bb) (nm : List UInt8) (w : World) (h : BSl w w.heap.size A n l) (hn : n ≤ 100000) :
    Calls Tryz.prog 55 #[.slice A n c, .string (str nm)] w fun e w' => ∃ A' c', e = .returned (.slice A' (without l nm).length c') ∧ BRow 90 w' w.heap.size A' c' (without l nm) ∧ Below w.heap.size w w' := by
  have HL := hid h
  have HN := hid hn
  have HLN := hid h.1
  clear h hn
  go_enter Tryz.func55, Tryz.ntmps55
  go_wp2_with fail
  go_loopg [5, 10] n (fun kk ov iv wr => ∃ (j : Nat) (A' : Option Addr) (c' : Nat), ov = .slice A' (without (l.take j) nm).length c' ∧ iv = .int .i64 (j : Int) ∧ Hid (kk = n - j) ∧ Hid (j ≤ n) ∧ Hid (BRow 90 wr w.heap.size A' c' (without (l.take j) nm)) ∧ Hid (Below w.heap.size w wr))
  case atStart => exact ⟨0, none, 0, rfl, rfl, hid rfl, hid (Nat.zero_le _), hid (BRow.nil _ _ _), hid (Below.refl _ _)⟩
  case round =>
    obtain ⟨j, A', c', rfl, rfl, hgk, hj, hR, hB⟩ := hrel
    rename World => wr
    rcases Nat.lt_or_ge j n with hlt | hge
    · have HJ := hid hlt
      have hjl : j < l.length := by rw [HLN.out]; exact hlt
      have j1 : (0 : Int) ≤ (j : Int) := Int.natCast_nonneg j
      have j2 : (j : Int) < (n : Int) := Int.ofNat_lt.2 hlt
      have j3 : decide ((j : Int) < (n : Int)) = true := decide_eq_true j2
      have j4 : decide (j < n) = true := decide_eq_true hlt
      have wj : wrap64 ((j : Int) + 1) = ((j + 1 : Nat) : Int) := rs_w HN.out hlt
      obtain ⟨b, off, rfl, hbl, hr⟩ := HL.out.2 j hjl
      have HS := hid (without_snoc hjl nm)
      have HWL : Hid ((without (l.take j) nm).length ≤ 1000000) := hid (by have h1 := List.length_filter_le (fun x : Bb => decide (x.nm ≠ nm)) (l.take j); have h2 : (without (l.take j) nm).length ≤ (l.take j).length := h1; rw [List.length_take] at h2; have := HN.out; have := HLN.out; omega)
      generalize l[j] = x at *
      generalize without (l.take j) nm = P at *
      obtain ⟨c0, c1, c2, c3, c4, c5, c6, c7, c8, c9, c10⟩ := range11 (rangeAt_keep hr (hB.out.block b hbl))
      have HBX := hid (Blk.new wr 90 #[.string (str (x).nm), .int .i64 (x).k.t, .int .i64 (x).k.c, .int .i64 (x).k.e, .int .i64 (x).b, .int .i64 (x).p.k.t, .int .i64 (x).p.k.c, .int .i64 (x).p.k.e, .int .i64 (x).p.id, .int .i64 (x).p.ver, .int .i64 (x).sz])
      have hbx : Below wr.heap.size wr (wr.alloc (.cells #[.string (str (x).nm), .int .i64 (x).k.t, .int .i64 (x).k.c, .int .i64 (x).k.e, .int .i64 (x).b, .int .i64 (x).p.k.t, .int .i64 (x).p.k.c, .int .i64 (x).p.k.e, .int .i64 (x).p.id, .int .i64 (x).p.ver, .int .i64 (x).sz] 90)) := (Below.refl _ _).alloc (Nat.le_refl _) _
      have HR2 : Hid (BRow 90 (wr.alloc (.cells #[.string (str (x).nm), .int .i64 (x).k.t, .int .i64 (x).k.c, .int .i64 (x).k.e, .int .i64 (x).b, .int .i64 (x).p.k.t, .int .i64 (x).p.k.c, .int .i64 (x).p.k.e, .int .i64 (x).p.id, .int .i64 (x).p.ver, .int .i64 (x).sz] 90)) w.heap.size A' c' P) := hid (World.ownsRow.below hR.out hbx)
      have HB2 : Hid (Below w.heap.size w (wr.alloc (.cells #[.string (str (x).nm), .int .i64 (x).k.t, .int .i64 (x).k.c, .int .i64 (x).k.e, .int .i64 (x).b, .int .i64 (x).p.k.t, .int .i64 (x).p.k.c, .int .i64 (x).p.k.e, .int .i64 (x).p.id, .int .i64 (x).p.ver, .int .i64 (x).sz] 90))) := hid (hB.out.trans (hbx.mono hB.out.size))
      obtain ⟨x0, x1, x2, x3, x4, x5, x6, x7, x8, x9, x10⟩ := bbB_cells (x := x) HBX.out
      have s1 := str_list x.nm
      have s2 := str_list nm
      clear hlt hjl hbl hr hbx
      by_cases he : x.nm = nm
      · have d1 : (x.nm == nm) = true := by rw [he]; exact beq_self_eq_true _
        have d2 : ((str x.nm).toList == (str nm).toList) = true := by rw [he]; exact beq_self_eq_true _
        have HE : Hid (without (l.take (j + 1)) nm = P) := hid (by rw [HS.out, if_pos he])
        clear he
        go_wp2_with fail
        go_roundg (n - (j + 1))
        case measure => exact rs_meas hgk.out HJ.out
        case rel => exact ⟨j + 1, A', c', by rw [HE.out], by first | rfl | rw [wj], hid rfl, hid HJ.out, by rw [HE.out]; exact HR2, HB2⟩
      · have d1 : (x.nm == nm) = false := beq_eq_false_iff_ne.2 he
        have d2 : ((str x.nm).toList == (str nm).toList) = false := str_ne he
        have HE : Hid (without (l.take (j + 1)) nm = P ++ [x]) := hid (by rw [HS.out, if_neg he])
        clear he
        have hsz : (wr.alloc (.cells #[.string (str (x).nm), .int .i64 (x).k.t, .int .i64 (x).k.c, .int .i64 (x).k.e, .int .i64 (x).b, .int .i64 (x).p.k.t, .int .i64 (x).p.k.c, .int .i64 (x).p.k.e, .int .i64 (x).p.id, .int .i64 (x).p.ver, .int .i64 (x).sz] 90)).heap.size = wr.heap.size + 1 := by simp
        go_wp2_with (at_builtin; refine wpList_appB (wr.alloc (.cells #[.string (str (x).nm), .int .i64 (x).k.t, .int .i64 (x).k.c, .int .i64 (x).k.e, .int .i64 (x).b, .int .i64 (x).p.k.t, .int .i64 (x).p.k.c, .int .i64 (x).p.k.e, .int .i64 (x).p.id, .int .i64 (x).p.ver, .int .i64 (x).sz] 90)) rfl _ _ rfl w.heap.size A' c' P P.length rfl rfl HR2.out x _ hsz rfl HWL.out HB2.out.size ?_)
        intro A3 c3' w3 ho3 hb3 _
        have HR3 : Hid (BRow 90 w3 w.heap.size A3 c3' (P ++ [x])) := hid (by unfold BRow; rw [bcs_app, bcs_one, List.length_append]; exact ho3)
        have HB3 := hid (HB2.out.trans hb3)
        clear ho3 hb3
        go_wp2_with fail
        go_roundg (n - (j + 1))
        case measure => exact rs_meas hgk.out HJ.out
        case rel => exact ⟨j + 1, A3, c3', by rw [HE.out, List.length_append]; rfl, by first | rfl | rw [wj], hid rfl, hid HJ.out, by rw [HE.out]; exact HR3, HB3⟩
    · have hjn : j = n := by have := hj.out; omega
      subst hjn
      have j2 : ¬ (j : Int) < (j : Int) := fun e => absurd e (Int.lt_irrefl _)
      have HE : Hid (l.take j = l) := hid (List.take_of_length_le (Nat.le_of_eq HLN.out))
      clear hge hj hgk
      go_wp2
      go_ret
      exact ⟨A', c', by rw [HE.out]; rfl, by have := hR.out; rwa [HE.out] at this, hB.out⟩
theorem with_split : ∀ (l : List Bb) (j : Nat) (hj : j < l.length), (l.drop j) = l[j] :: l.drop (j + 1) := fun _ _ hj => List.drop_eq_getElem_cons hj
/-- with_, one blob further. -/
def wiR (i : Bool) (l : List Bb) (b : Bb) : List Bb := if i then l else with_ l b
theorem wiR_step {l : List Bb} {j : Nat} (hj : j < l.length) (b : Bb) : wiR true (l.drop j) b = l[j] :: wiR true (l.drop (j + 1)) b ∧
    (Op.bytesLess b.nm l[j].nm = true → wiR false (l.drop j) b = b :: l[j] :: wiR true (l.drop (j + 1)) b) ∧
    (Op.bytesLess b.nm l[j].nm = false → wiR false (l.drop j) b = l[j] :: wiR false (l.drop (j + 1)) b) := by
  unfold wiR
  rw [with_split l j hj]
  refine ⟨rfl, fun h => ?_, fun h => ?_⟩
  · show with_ (l[j] :: l.drop (j + 1)) b = _
    rw [with_, if_pos h]; rfl
  · show with_ (l[j] :: l.drop (j + 1)) b = _
    rw [with_, if_neg (by rw [h]; decide)]; rfl
set_option maxRecDepth 100000 in
set_option maxHeartbeats 16000000 in
theorem rwith_c (A : Option Addr) (n c : Nat) (l : List Bb) (y : Bb) (w : World) (h : BSl w w.heap.size A n l) (hn : n ≤ 100000) :
    Calls Tryz.prog 56 #[.slice A n c, (.agg #[.string (str (y).nm), .int .i64 (y).k.t, .int .i64 (y).k.c, .int .i64 (y).k.e, .int .i64 (y).b, .int .i64 (y).p.k.t, .int .i64 (y).p.k.c, .int .i64 (y).p.k.e, .int .i64 (y).p.id, .int .i64 (y).p.ver, .int .i64 (y).sz])] w fun e w' => ∃ A' c', e = .returned (.slice A' (with_ l y).length c') ∧ BRow 90 w' w.heap.size A' c' (with_ l y) ∧ Below w.heap.size w w' := by
  have HL := hid h
  have HN := hid hn
  have HLN := hid h.1
  have HKY := hid (Blk.new w 90 #[.string (str (y).nm), .int .i64 (y).k.t, .int .i64 (y).k.c, .int .i64 (y).k.e, .int .i64 (y).b, .int .i64 (y).p.k.t, .int .i64 (y).p.k.c, .int .i64 (y).p.k.e, .int .i64 (y).p.id, .int .i64 (y).p.ver, .int .i64 (y).sz])
  have hb0 : Below w.heap.size w (w.alloc (.cells #[.string (str (y).nm), .int .i64 (y).k.t, .int .i64 (y).k.c, .int .i64 (y).k.e, .int .i64 (y).b, .int .i64 (y).p.k.t, .int .i64 (y).p.k.c, .int .i64 (y).p.k.e, .int .i64 (y).p.id, .int .i64 (y).p.ver, .int .i64 (y).sz] 90)) := (Below.refl _ _).alloc (Nat.le_refl _) _
  have HB0 := hid hb0
  have HGE : Hid (w.heap.size < (w.alloc (.cells #[.string (str (y).nm), .int .i64 (y).k.t, .int .i64 (y).k.c, .int .i64 (y).k.e, .int .i64 (y).b, .int .i64 (y).p.k.t, .int .i64 (y).p.k.c, .int .i64 (y).p.k.e, .int .i64 (y).p.id, .int .i64 (y).p.ver, .int .i64 (y).sz] 90)).heap.size) := hid (by simp)
  clear h hn hb0
  go_enter Tryz.func56, Tryz.ntmps56
  go_wp2_with fail
  generalize w.alloc (.cells #[.string (str (y).nm), .int .i64 (y).k.t, .int .i64 (y).k.c, .int .i64 (y).k.e, .int .i64 (y).b, .int .i64 (y).p.k.t, .int .i64 (y).p.k.c, .int .i64 (y).p.k.e, .int .i64 (y).p.id, .int .i64 (y).p.ver, .int .i64 (y).sz] 90) = w1 at *
  generalize hyb : w.heap.size = yb at *
  have HYB := hid hyb
  clear hyb
  go_loopg [5, 6, 11] n (fun kk ov bv iv wr => ∃ (j : Nat) (q : Bool) (A' : Option Addr) (c' : Nat) (P : List Bb), ov = .slice A' P.length c' ∧ bv = .bool q ∧ iv = .int .i64 (j : Int) ∧ Hid (kk = n - j) ∧ Hid (j ≤ n) ∧ Hid (with_ l y = P ++ wiR q (l.drop j) y) ∧ Hid (P.length ≤ j + q.toNat) ∧ Hid (BRow 90 wr w1.heap.size A' c' P) ∧ Hid (Below w1.heap.size w1 wr))
  case atStart => exact ⟨0, false, none, 0, [], rfl, rfl, rfl, hid rfl, hid (Nat.zero_le _), hid rfl, hid (Nat.zero_le _), hid (BRow.nil _ _ _), hid (Below.refl _ _)⟩
  case round =>
    obtain ⟨j, q, A', c', P, rfl, rfl, rfl, hgk, hj, hW, hPL, hR, hB⟩ := hrel
    rename World => wr
    rcases Nat.lt_or_ge j n with hlt | hge
    · have HJ := hid hlt
      have hjl : j < l.length := by rw [HLN.out]; exact hlt
      have j1 : (0 : Int) ≤ (j : Int) := Int.natCast_nonneg j
      have j2 : (j : Int) < (n : Int) := Int.ofNat_lt.2 hlt
      have j3 : decide ((j : Int) < (n : Int)) = true := decide_eq_true j2
      have j4 : decide (j < n) = true := decide_eq_true hlt
      have wj : wrap64 ((j : Int) + 1) = ((j + 1 : Nat) : Int) := rs_w HN.out hlt
      obtain ⟨b, off, rfl, hbl, hr⟩ := HL.out.2 j hjl
      have HST := hid (wiR_step hjl y)
      have HPM : Hid (P.length ≤ 1000000 ∧ P.length + 1 ≤ 1000000) := hid (by have := hPL.out; have := HN.out; have := Bool.toNat_le q; omega)
      generalize l[j] = x at *
      have hbl1 : b < w1.heap.size := by have := HGE.out; omega
      have hr1 : w1.rangeAt b (off + j * 11) x.cells := rangeAt_keep hr (HB0.out.block b hbl)
      obtain ⟨c0, c1, c2, c3, c4, c5, c6, c7, c8, c9, c10⟩ := range11 (rangeAt_keep hr1 (hB.out.block b hbl1))
      have HBX := hid (Blk.new wr 90 #[.string (str (x).nm), .int .i64 (x).k.t, .int .i64 (x).k.c, .int .i64 (x).k.e, .int .i64 (x).b, .int .i64 (x).p.k.t, .int .i64 (x).p.k.c, .int .i64 (x).p.k.e, .int .i64 (x).p.id, .int .i64 (x).p.ver, .int .i64 (x).sz])
      have hbx : Below wr.heap.size wr (wr.alloc (.cells #[.string (str (x).nm), .int .i64 (x).k.t, .int .i64 (x).k.c, .int .i64 (x).k.e, .int .i64 (x).b, .int .i64 (x).p.k.t, .int .i64 (x).p.k.c, .int .i64 (x).p.k.e, .int .i64 (x).p.id, .int .i64 (x).p.ver, .int .i64 (x).sz] 90)) := (Below.refl _ _).alloc (Nat.le_refl _) _
      have HR2 : Hid (BRow 90 (wr.alloc (.cells #[.string (str (x).nm), .int .i64 (x).k.t, .int .i64 (x).k.c, .int .i64 (x).k.e, .int .i64 (x).b, .int .i64 (x).p.k.t, .int .i64 (x).p.k.c, .int .i64 (x).p.k.e, .int .i64 (x).p.id, .int .i64 (x).p.ver, .int .i64 (x).sz] 90)) w1.heap.size A' c' P) := hid (World.ownsRow.below hR.out hbx)
      have HB2 : Hid (Below w1.heap.size w1 (wr.alloc (.cells #[.string (str (x).nm), .int .i64 (x).k.t, .int .i64 (x).k.c, .int .i64 (x).k.e, .int .i64 (x).b, .int .i64 (x).p.k.t, .int .i64 (x).p.k.c, .int .i64 (x).p.k.e, .int .i64 (x).p.id, .int .i64 (x).p.ver, .int .i64 (x).sz] 90))) := hid (hB.out.trans (hbx.mono hB.out.size))
      have HY2 := hid (HKY.out.keep (HB2.out.block _ HKY.out.lt))
      obtain ⟨x0, x1, x2, x3, x4, x5, x6, x7, x8, x9, x10⟩ := bbB_cells (x := x) HBX.out
      obtain ⟨y0, y1, y2, y3, y4, y5, y6, y7, y8, y9, y10⟩ := bbB_cells (x := y) HY2.out
      have s1 := str_list x.nm
      have s2 := str_list y.nm
      clear hlt hjl hbl hbl1 hr hr1 hbx
      cases q with
      | true =>
        have hsz : (wr.alloc (.cells #[.string (str (x).nm), .int .i64 (x).k.t, .int .i64 (x).k.c, .int .i64 (x).k.e, .int .i64 (x).b, .int .i64 (x).p.k.t, .int .i64 (x).p.k.c, .int .i64 (x).p.k.e, .int .i64 (x).p.id, .int .i64 (x).p.ver, .int .i64 (x).sz] 90)).heap.size = wr.heap.size + 1 := by simp
        have HE : Hid (with_ l y = (P ++ [x]) ++ wiR true (l.drop (j + 1)) y) := hid (by rw [hW.out, HST.out.1, List.append_assoc]; rfl)
        have HPL2 : Hid ((P ++ [x]).length = P.length + 1) := hid (by simp)
        clear y0 y1 y2 y3 y4 y5 y6 y7 y8 y9 y10
        go_wp2_with (at_builtin; refine wpList_appB (wr.alloc (.cells #[.string (str (x).nm), .int .i64 (x).k.t, .int .i64 (x).k.c, .int .i64 (x).k.e, .int .i64 (x).b, .int .i64 (x).p.k.t, .int .i64 (x).p.k.c, .int .i64 (x).p.k.e, .int .i64 (x).p.id, .int .i64 (x).p.ver, .int .i64 (x).sz] 90)) rfl _ _ rfl w1.heap.size A' c' P P.length rfl rfl HR2.out x _ hsz rfl HPM.out.1 HB2.out.size ?_)
        intro A3 c3' w3 ho3 hb3 _
        have HR3 : Hid (BRow 90 w3 w1.heap.size A3 c3' (P ++ [x])) := hid (by unfold BRow; rw [bcs_app, bcs_one, List.length_append]; exact ho3)
        have HB3 := hid (HB2.out.trans hb3)
        clear ho3 hb3
        go_wp2_with fail
        go_roundg (n - (j + 1))
        case measure => exact rs_meas hgk.out HJ.out
        case rel => exact ⟨j + 1, true, A3, c3', P ++ [x], by rw [HPL2.out], rfl, by first | rfl | rw [wj], hid rfl, hid HJ.out, HE, hid (by rw [HPL2.out]; have := hPL.out; simp only [Bool.toNat_true] at this ⊢; omega), HR3, HB3⟩
      | false =>
        cases hyx : Op.bytesLess y.nm x.nm with
        | false =>
          have hsz : (wr.alloc (.cells #[.string (str (x).nm), .int .i64 (x).k.t, .int .i64 (x).k.c, .int .i64 (x).k.e, .int .i64 (x).b, .int .i64 (x).p.k.t, .int .i64 (x).p.k.c, .int .i64 (x).p.k.e, .int .i64 (x).p.id, .int .i64 (x).p.ver, .int .i64 (x).sz] 90)).heap.size = wr.heap.size + 1 := by simp
          have HE : Hid (with_ l y = (P ++ [x]) ++ wiR false (l.drop (j + 1)) y) := hid (by rw [hW.out, HST.out.2.2 hyx, List.append_assoc]; rfl)
          have HPL2 : Hid ((P ++ [x]).length = P.length + 1) := hid (by simp)
          go_wp2_with (at_builtin; refine wpList_appB (wr.alloc (.cells #[.string (str (x).nm), .int .i64 (x).k.t, .int .i64 (x).k.c, .int .i64 (x).k.e, .int .i64 (x).b, .int .i64 (x).p.k.t, .int .i64 (x).p.k.c, .int .i64 (x).p.k.e, .int .i64 (x).p.id, .int .i64 (x).p.ver, .int .i64 (x).sz] 90)) rfl _ _ rfl w1.heap.size A' c' P P.length rfl rfl HR2.out x _ hsz rfl HPM.out.1 HB2.out.size ?_)
          intro A3 c3' w3 ho3 hb3 _
          have HR3 : Hid (BRow 90 w3 w1.heap.size A3 c3' (P ++ [x])) := hid (by unfold BRow; rw [bcs_app, bcs_one, List.length_append]; exact ho3)
          have HB3 := hid (HB2.out.trans hb3)
          clear ho3 hb3 y0 y1 y2 y3 y4 y5 y6 y7 y8 y9 y10
          go_wp2_with fail
          go_roundg (n - (j + 1))
          case measure => exact rs_meas hgk.out HJ.out
          case rel => exact ⟨j + 1, false, A3, c3', P ++ [x], by rw [HPL2.out], rfl, by first | rfl | rw [wj], hid rfl, hid HJ.out, HE, hid (by rw [HPL2.out]; have := hPL.out; simp only [Bool.toNat_false] at this ⊢; omega), HR3, HB3⟩
        | true =>
          have hsz : (wr.alloc (.cells #[.string (str (x).nm), .int .i64 (x).k.t, .int .i64 (x).k.c, .int .i64 (x).k.e, .int .i64 (x).b, .int .i64 (x).p.k.t, .int .i64 (x).p.k.c, .int .i64 (x).p.k.e, .int .i64 (x).p.id, .int .i64 (x).p.ver, .int .i64 (x).sz] 90)).heap.size = wr.heap.size + 1 := by simp
          have HE : Hid (with_ l y = (P ++ [y] ++ [x]) ++ wiR true (l.drop (j + 1)) y) := hid (by rw [hW.out, HST.out.2.1 hyx]; simp)
          have HPL2 : Hid ((P ++ [y]).length = P.length + 1) := hid (by simp)
          have HPL3 : Hid ((P ++ [y] ++ [x]).length = P.length + 1 + 1) := hid (by simp)
          have HAL : Hid (∀ d, A'.map (·.block) = some d → d < wr.heap.size) := hid (fun d hd => own_lt hR.out d hd)
          go_wp2_with (at_builtin; refine wpList_appB (wr.alloc (.cells #[.string (str (x).nm), .int .i64 (x).k.t, .int .i64 (x).k.c, .int .i64 (x).k.e, .int .i64 (x).b, .int .i64 (x).p.k.t, .int .i64 (x).p.k.c, .int .i64 (x).p.k.e, .int .i64 (x).p.id, .int .i64 (x).p.ver, .int .i64 (x).sz] 90)) rfl _ _ rfl w1.heap.size A' c' P P.length rfl rfl HR2.out y _ hsz rfl HPM.out.1 HB2.out.size ?_)
          intro A3 c3' w3 ho3 hb3 hg3
          have HR3 : Hid (BRow 90 w3 w1.heap.size A3 c3' (P ++ [y])) := hid (by unfold BRow; rw [bcs_app, bcs_one, List.length_append]; exact ho3)
          have HB3 := hid (HB2.out.trans hb3)
          have HBX3 := hid (HBX.out.keep (hg3.block _ HBX.out.lt (fun e => by have := HAL.out _ e.symm; omega)))
          clear ho3 hb3 hg3 x0 x1 x2 x3 x4 x5 x6 x7 x8 x9 x10 y0 y1 y2 y3 y4 y5 y6 y7 y8 y9 y10 c0 c1 c2 c3 c4 c5 c6 c7 c8 c9 c10
          obtain ⟨x0, x1, x2, x3, x4, x5, x6, x7, x8, x9, x10⟩ := bbB_cells (x := x) HBX3.out
          generalize hw3 : w3.heap.size = z3 at *
          go_wp2_with (at_builtin; refine wpList_appB w3 rfl _ _ rfl w1.heap.size A3 c3' (P ++ [y]) (P.length + 1) HPL2.out rfl (by have := HR3.out; unfold BRow at this; rwa [HPL2.out] at this) x _ hw3 rfl HPM.out.2 HB3.out.size ?_)
          intro A4 c4' w4 ho4 hb4 _
          have HR4 : Hid (BRow 90 w4 w1.heap.size A4 c4' (P ++ [y] ++ [x])) := hid (by unfold BRow; rw [bcs_app, bcs_one, HPL3.out]; exact ho4)
          have HB4 := hid (HB3.out.trans hb4)
          clear ho4 hb4
          go_wp2_with fail
          go_roundg (n - (j + 1))
          case measure => exact rs_meas hgk.out HJ.out
          case rel => exact ⟨j + 1, true, A4, c4', P ++ [y] ++ [x], by rw [HPL3.out], rfl, by first | rfl | rw [wj], hid rfl, hid HJ.out, HE, hid (by rw [HPL3.out]; have := hPL.out; (try simp only [Bool.toNat_true, Bool.toNat_false] at this ⊢); omega), HR4, HB4⟩
    · have hjn : j = n := by have := hj.out; omega
      subst hjn
      have j2 : ¬ (j : Int) < (j : Int) := fun e => absurd e (Int.lt_irrefl _)
      have HD : Hid (l.drop j = []) := hid (List.drop_eq_nil_of_le (Nat.le_of_eq HLN.out))
      have HFB := HGE
      clear hge hj hgk
      cases q with
      | true =>
        have HE : Hid (with_ l y = P) := hid (by rw [hW.out, HD.out]; unfold wiR; rw [if_pos rfl, List.append_nil])
        go_wp2
        go_ret
        exact ⟨A', c', by rw [HE.out]; rfl, by rw [HE.out]; exact ownsRow_base_a hR.out HB0.out.size, by rw [HYB.out]; exact HB0.out.trans (hB.out.mono (Nat.le_of_lt HFB.out))⟩
      | false =>
        have HE : Hid (with_ l y = P ++ [y]) := hid (by rw [hW.out, HD.out]; rfl)
        have HPL2 : Hid ((P ++ [y]).length = P.length + 1) := hid (by simp)
        have HY2 := hid (HKY.out.keep (hB.out.block _ HKY.out.lt))
        obtain ⟨y0, y1, y2, y3, y4, y5, y6, y7, y8, y9, y10⟩ := bbB_cells (x := y) HY2.out
        have HPM : Hid (P.length ≤ 1000000) := hid (by have h1 := hPL.out; have h2 := HN.out; simp only [Bool.toNat_false] at h1; omega)
        generalize hwr : wr.heap.size = zr at *
        go_wp2_with (at_builtin; refine wpList_appB wr rfl _ _ rfl w1.heap.size A' c' P P.length rfl rfl hR.out y _ hwr rfl HPM.out hB.out.size ?_)
        intro A3 c3' w3 ho3 hb3 _
        have HR3 : Hid (BRow 90 w3 w1.heap.size A3 c3' (P ++ [y])) := hid (by unfold BRow; rw [bcs_app, bcs_one, HPL2.out]; exact ho3)
        have HB3 := hid (hB.out.trans hb3)
        clear ho3 hb3 y0 y1 y2 y3 y4 y5 y6 y7 y8 y9 y10
        go_wp2
        go_ret
        exact ⟨A3, c3', by rw [HE.out, HPL2.out]; rfl, by rw [HE.out]; exact ownsRow_base_a HR3.out HB0.out.size, by rw [HYB.out]; exact HB0.out.trans (HB3.out.mono (Nat.le_of_lt HFB.out))⟩
set_option maxRecDepth 100000 in
set_option maxHeartbeats 2000000 in
theorem rname_c (nm : List UInt8) (hn : nm.length ≤ maxLen) (w : World) : Calls Tryz.prog 82 #[.string (str nm)] w fun e w' => e = .returned (.bool (decide (nmOk nm))) ∧ w = w' := by
  have hs := str_size nm
  have s1 := str_list nm
  by_cases h0 : nm = []
  · subst h0
    go_enter Tryz.func82, Tryz.ntmps82
    go_wp2
    go_ret
    exact ⟨rfl, rfl⟩
  · have e0 : ((str nm).toList == (str []).toList) = false := str_ne h0
    have e1 : (nm == []) = false := beq_eq_false_iff_ne.2 h0
    have e2 : (nm.isEmpty) = false := by cases nm with | nil => exact absurd rfl h0 | cons _ _ => rfl
    obtain ⟨q, hq⟩ : ∃ q, q = decide (nm.length ≤ 40) := ⟨_, rfl⟩
    have HQ : Hid (decide (nmOk nm) = q) := hid (by rw [hq]; exact decide_eq_decide.2 ⟨fun h => h.2, fun h => ⟨h0, h⟩⟩)
    have e3 : decide (((nm.length : Nat) : Int) ≤ 40) = q := by rw [hq]; simp; omega
    have e4 : decide (nm.length ≤ 40) = q := hq.symm
    clear hq h0
    go_enter Tryz.func82, Tryz.ntmps82
    go_wp2
    go_ret
    exact ⟨by rw [HQ.out]; rfl, rfl⟩
end Go.Proofs.YtdkbpjkoiegflaaGreat
