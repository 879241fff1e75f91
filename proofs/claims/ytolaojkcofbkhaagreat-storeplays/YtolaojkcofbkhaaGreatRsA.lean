import Derived.Test.YtolaojkcofbkhaaGreatStPx
import Derived.Test.YtolaojkcofbkhaaGreatPkRef
import Derived.Test.YtolaojkcofbkhaaGreatApL
import Derived.Test.YtolaojkcofbkhaaGreatFrameX
namespace Go.Proofs.YtolaojkcofbkhaaGreat
set_option maxRecDepth 100000
set_option maxHeartbeats 16000000
open Go.RowKit
theorem rs_meas {k m j : Nat} (h : k = m - j) (hj : j < m) : m - (j + 1) < k := by omega
theorem rs_w {k m : Nat} (h : m ≤ 100000) (hk : k < m) : wrap64 ((k : Int) + 1) = ((k + 1 : Nat) : Int) := by unfold wrap64; omega
theorem without_snoc {l : List Bb} {j : Nat} (h : j < l.length) (nm : List UInt8) : without (l.take (j + 1)) nm = if l[j].nm = nm then without (l.take j) nm else without (l.take j) nm ++ [l[j]] := by
 unfold without
 rw [List.take_succ_eq_append_getElem h, List.filter_append]
 by_cases e : l[j].nm = nm
 · rw [if_pos e, List.filter_cons_of_neg (by simpa using e)]; simp
 · rw [if_neg e, List.filter_cons_of_pos (by simpa using e)]; simp
theorem rwithout_c (A : Option Addr) (n c : Nat) (l : List Bb) (nm : List UInt8) (w : World) (h : BSl w w.heap.size A n l) (hn : n ≤ 100000) :
 Calls Tryz.prog 55 #[.slice A n c, .string (str nm)] w fun e w' => ∃ A' c', e = .returned (.slice A' (without l nm).length c') ∧ BRow 90 w' w.heap.size A' c' (without l nm) ∧ Below w.heap.size w w' := by
 have HL := hid h
 have HN := hid hn
 have HLN := hid h.1
 clear h hn
 go_enter Tryz.func55, Tryz.ntmps55
 go_wp2_with fail
 go_loopg [5, 10] n (fun kk ov iv wr => ∃ (j : Nat) (A' : Option Addr) (c' : Nat), ov = .slice A' (without (l.take j) nm).length c' ∧ iv = .int .i64 (j : Int) ∧ Hid (kk = n - j) ∧ Hid (j ≤ n) ∧ Hid (BRow 90 wr w.heap.size A' c' (without (l.take j) nm)) ∧ Hid (Below w.heap.size w wr))
 case atStart => exact ⟨0, none, 0, rfl, rfl, hid rfl, hid (Nat.zero_le _), hid (BRow.nil _ _ _), hid (Below.refl _ _)⟩
 case round =>
  obtain ⟨j, A', c', rfl, rfl, hgk, hj, hR, hB⟩ := hrel
  rename World => wr
  rcases Nat.lt_or_ge j n with hlt | hge
  · have HJ := hid hlt
    have hjl : j < l.length := by rw [HLN.out]; exact hlt
    have j1 : (0 : Int) ≤ (j : Int) := Int.natCast_nonneg j
    have j2 : (j : Int) < (n : Int) := Int.ofNat_lt.2 hlt
    have j3 : decide ((j : Int) < (n : Int)) = true := decide_eq_true j2
    have j4 : decide (j < n) = true := decide_eq_true hlt
    have wj : wrap64 ((j : Int) + 1) = ((j + 1 : Nat) : Int) := rs_w HN.out hlt
    obtain ⟨b, off, rfl, hbl, hr⟩ := HL.out.2 j hjl
    have HS := hid (without_snoc hjl nm)
    have HWL : Hid ((without (l.take j) nm).length ≤ 1000000) := hid (by have h1 := List.length_filter_le (fun x : Bb => decide (x.nm ≠ nm)) (l.take j); have h2 : (without (l.take j) nm).length ≤ (l.take j).length := h1; rw [List.length_take] at h2; have := HN.out; have := HLN.out; omega)
    generalize l[j] = x at *
    generalize without (l.take j) nm = P at *
    obtain ⟨c0, c1, c2, c3, c4, c5, c6, c7, c8, c9, c10⟩ := range11 (rangeAt_keep hr (hB.out.block b hbl))
    have HBX := hid (Blk.new wr 90 #[.string (str (x).nm), .int .i64 (x).k.t, .int .i64 (x).k.c, .int .i64 (x).k.e, .int .i64 (x).b, .int .i64 (x).p.k.t, .int .i64 (x).p.k.c, .int .i64 (x).p.k.e, .int .i64 (x).p.id, .int .i64 (x).p.ver, .int .i64 (x).sz])
    have hbx : Below wr.heap.size wr (wr.alloc (.cells #[.string (str (x).nm), .int .i64 (x).k.t, .int .i64 (x).k.c, .int .i64 (x).k.e, .int .i64 (x).b, .int .i64 (x).p.k.t, .int .i64 (x).p.k.c, .int .i64 (x).p.k.e, .int .i64 (x).p.id, .int .i64 (x).p.ver, .int .i64 (x).sz] 90)) := (Below.refl _ _).alloc (nl _) _
    have HR2 : Hid (BRow 90 (wr.alloc (.cells #[.string (str (x).nm), .int .i64 (x).k.t, .int .i64 (x).k.c, .int .i64 (x).k.e, .int .i64 (x).b, .int .i64 (x).p.k.t, .int .i64 (x).p.k.c, .int .i64 (x).p.k.e, .int .i64 (x).p.id, .int .i64 (x).p.ver, .int .i64 (x).sz] 90)) w.heap.size A' c' P) := hid (World.ownsRow.below hR.out hbx)
    have HB2 : Hid (Below w.heap.size w (wr.alloc (.cells #[.string (str (x).nm), .int .i64 (x).k.t, .int .i64 (x).k.c, .int .i64 (x).k.e, .int .i64 (x).b, .int .i64 (x).p.k.t, .int .i64 (x).p.k.c, .int .i64 (x).p.k.e, .int .i64 (x).p.id, .int .i64 (x).p.ver, .int .i64 (x).sz] 90))) := hid (hB.out.trans (hbx.mono hB.out.size))
    obtain ⟨x0, x1, x2, x3, x4, x5, x6, x7, x8, x9, x10⟩ := bbB_cells (x := x) HBX.out
    have s1 := str_list x.nm
    have s2 := str_list nm
    clear hlt hjl hbl hr hbx
    by_cases he : x.nm = nm
    · have d1 : (x.nm == nm) = true := by rw [he]; exact beq_self_eq_true _
      have d2 : ((str x.nm).toList == (str nm).toList) = true := by rw [he]; exact beq_self_eq_true _
      have HE : Hid (without (l.take (j + 1)) nm = P) := hid (by rw [HS.out, if_pos he])
      clear he
      go_wp2_with fail
      go_roundg (n - (j + 1))
      case measure => exact rs_meas hgk.out HJ.out
      case rel => exact ⟨j + 1, A', c', by rw [HE.out], by first | rfl | rw [wj], hid rfl, hid HJ.out, by rw [HE.out]; exact HR2, HB2⟩
    · have d1 : (x.nm == nm) = false := beq_eq_false_iff_ne.2 he
      have d2 : ((str x.nm).toList == (str nm).toList) = false := str_ne he
      have HE : Hid (without (l.take (j + 1)) nm = P ++ [x]) := hid (by rw [HS.out, if_neg he])
      clear he
      have hsz : (wr.alloc (.cells #[.string (str (x).nm), .int .i64 (x).k.t, .int .i64 (x).k.c, .int .i64 (x).k.e, .int .i64 (x).b, .int .i64 (x).p.k.t, .int .i64 (x).p.k.c, .int .i64 (x).p.k.e, .int .i64 (x).p.id, .int .i64 (x).p.ver, .int .i64 (x).sz] 90)).heap.size = wr.heap.size + 1 := by simp
      go_wp2_with (at_builtin; refine wpList_appB (wr.alloc (.cells #[.string (str (x).nm), .int .i64 (x).k.t, .int .i64 (x).k.c, .int .i64 (x).k.e, .int .i64 (x).b, .int .i64 (x).p.k.t, .int .i64 (x).p.k.c, .int .i64 (x).p.k.e, .int .i64 (x).p.id, .int .i64 (x).p.ver, .int .i64 (x).sz] 90)) rfl _ _ rfl w.heap.size A' c' P P.length rfl rfl HR2.out x _ hsz rfl HWL.out HB2.out.size ?_)
      intro A3 c3' w3 ho3 hb3 _
      have HR3 : Hid (BRow 90 w3 w.heap.size A3 c3' (P ++ [x])) := hid (by unfold BRow; rw [bcs_app, bcs_one, List.length_append]; exact ho3)
      have HB3 := hid (HB2.out.trans hb3)
      clear ho3 hb3
      go_wp2_with fail
      go_roundg (n - (j + 1))
      case measure => exact rs_meas hgk.out HJ.out
      case rel => exact ⟨j + 1, A3, c3', by rw [HE.out, List.length_append]; rfl, by first | rfl | rw [wj], hid rfl, hid HJ.out, by rw [HE.out]; exact HR3, HB3⟩
  · have hjn : j = n := by have := hj.out; omega
    subst hjn
    have j2 : ¬ (j : Int) < (j : Int) := fun e => absurd e (Int.lt_irrefl _)
    have HE : Hid (l.take j = l) := hid (List.take_of_length_le (Nat.le_of_eq HLN.out))
    clear hge hj hgk
    go_wp2
    go_ret
    exact ⟨A', c', by rw [HE.out]; rfl, by have := hR.out; rwa [HE.out] at this, hB.out⟩
theorem with_split : ∀ (l : List Bb) (j : Nat) (hj : j < l.length), (l.drop j) = l[j] :: l.drop (j + 1) := fun _ _ hj => List.drop_eq_getElem_cons hj
def wiR (i : Bool) (l : List Bb) (b : Bb) : List Bb := if i then l else with_ l b
theorem wiR_step {l : List Bb} {j : Nat} (hj : j < l.length) (b : Bb) : wiR true (l.drop j) b = l[j] :: wiR true (l.drop (j + 1)) b ∧
 (Op.bytesLess b.nm l[j].nm = true → wiR false (l.drop j) b = b :: l[j] :: wiR true (l.drop (j + 1)) b) ∧
 (Op.bytesLess b.nm l[j].nm = false → wiR false (l.drop j) b = l[j] :: wiR false (l.drop (j + 1)) b) := by
 unfold wiR
 rw [with_split l j hj]
 refine ⟨rfl, fun h => ?_, fun h => ?_⟩
 · show with_ (l[j] :: l.drop (j + 1)) b = _
   rw [with_, if_pos h]; rfl
 · show with_ (l[j] :: l.drop (j + 1)) b = _
   rw [with_, if_neg (by rw [h]; decide)]; rfl
theorem rwith_c (A : Option Addr) (n c : Nat) (l : List Bb) (y : Bb) (w : World) (h : BSl w w.heap.size A n l) (hn : n ≤ 100000) :
 Calls Tryz.prog 56 #[.slice A n c, (.agg #[.string (str (y).nm), .int .i64 (y).k.t, .int .i64 (y).k.c, .int .i64 (y).k.e, .int .i64 (y).b, .int .i64 (y).p.k.t, .int .i64 (y).p.k.c, .int .i64 (y).p.k.e, .int .i64 (y).p.id, .int .i64 (y).p.ver, .int .i64 (y).sz])] w fun e w' => ∃ A' c', e = .returned (.slice A' (with_ l y).length c') ∧ BRow 90 w' w.heap.size A' c' (with_ l y) ∧ Below w.heap.size w w' := by
 have HL := hid h
 have HN := hid hn
 have HLN := hid h.1
 have HKY := hid (Blk.new w 90 #[.string (str (y).nm), .int .i64 (y).k.t, .int .i64 (y).k.c, .int .i64 (y).k.e, .int .i64 (y).b, .int .i64 (y).p.k.t, .int .i64 (y).p.k.c, .int .i64 (y).p.k.e, .int .i64 (y).p.id, .int .i64 (y).p.ver, .int .i64 (y).sz])
 have hb0 : Below w.heap.size w (w.alloc (.cells #[.string (str (y).nm), .int .i64 (y).k.t, .int .i64 (y).k.c, .int .i64 (y).k.e, .int .i64 (y).b, .int .i64 (y).p.k.t, .int .i64 (y).p.k.c, .int .i64 (y).p.k.e, .int .i64 (y).p.id, .int .i64 (y).p.ver, .int .i64 (y).sz] 90)) := (Below.refl _ _).alloc (nl _) _
 have HB0 := hid hb0
 have HGE : Hid (w.heap.size < (w.alloc (.cells #[.string (str (y).nm), .int .i64 (y).k.t, .int .i64 (y).k.c, .int .i64 (y).k.e, .int .i64 (y).b, .int .i64 (y).p.k.t, .int .i64 (y).p.k.c, .int .i64 (y).p.k.e, .int .i64 (y).p.id, .int .i64 (y).p.ver, .int .i64 (y).sz] 90)).heap.size) := hid (by simp)
 clear h hn hb0
 go_enter Tryz.func56, Tryz.ntmps56
 go_wp2_with fail
 generalize w.alloc (.cells #[.string (str (y).nm), .int .i64 (y).k.t, .int .i64 (y).k.c, .int .i64 (y).k.e, .int .i64 (y).b, .int .i64 (y).p.k.t, .int .i64 (y).p.k.c, .int .i64 (y).p.k.e, .int .i64 (y).p.id, .int .i64 (y).p.ver, .int .i64 (y).sz] 90) = w1 at *
 generalize hyb : w.heap.size = yb at *
 have HYB := hid hyb
 clear hyb
 go_loopg [5, 6, 11] n (fun kk ov bv iv wr => ∃ (j : Nat) (q : Bool) (A' : Option Addr) (c' : Nat) (P : List Bb), ov = .slice A' P.length c' ∧ bv = .bool q ∧ iv = .int .i64 (j : Int) ∧ Hid (kk = n - j) ∧ Hid (j ≤ n) ∧ Hid (with_ l y = P ++ wiR q (l.drop j) y) ∧ Hid (P.length ≤ j + q.toNat) ∧ Hid (BRow 90 wr w1.heap.size A' c' P) ∧ Hid (Below w1.heap.size w1 wr))
 case atStart => exact ⟨0, false, none, 0, [], rfl, rfl, rfl, hid rfl, hid (Nat.zero_le _), hid rfl, hid (Nat.zero_le _), hid (BRow.nil _ _ _), hid (Below.refl _ _)⟩
 case round =>
  obtain ⟨j, q, A', c', P, rfl, rfl, rfl, hgk, hj, hW, hPL, hR, hB⟩ := hrel
  rename World => wr
  rcases Nat.lt_or_ge j n with hlt | hge
  · have HJ := hid hlt
    have hjl : j < l.length := by rw [HLN.out]; exact hlt
    have j1 : (0 : Int) ≤ (j : Int) := Int.natCast_nonneg j
    have j2 : (j : Int) < (n : Int) := Int.ofNat_lt.2 hlt
    have j3 : decide ((j : Int) < (n : Int)) = true := decide_eq_true j2
    have j4 : decide (j < n) = true := decide_eq_true hlt
    have wj : wrap64 ((j : Int) + 1) = ((j + 1 : Nat) : Int) := rs_w HN.out hlt
    obtain ⟨b, off, rfl, hbl, hr⟩ := HL.out.2 j hjl
    have HST := hid (wiR_step hjl y)
    have HPM : Hid (P.length ≤ 1000000 ∧ P.length + 1 ≤ 1000000) := hid (by have := hPL.out; have := HN.out; have := Bool.toNat_le q; omega)
    generalize l[j] = x at *
    have hbl1 : b < w1.heap.size := by have := HGE.out; omega
    have hr1 : w1.rangeAt b (off + j * 11) x.cells := rangeAt_keep hr (HB0.out.block b hbl)
    obtain ⟨c0, c1, c2, c3, c4, c5, c6, c7, c8, c9, c10⟩ := range11 (rangeAt_keep hr1 (hB.out.block b hbl1))
    have HBX := hid (Blk.new wr 90 #[.string (str (x).nm), .int .i64 (x).k.t, .int .i64 (x).k.c, .int .i64 (x).k.e, .int .i64 (x).b, .int .i64 (x).p.k.t, .int .i64 (x).p.k.c, .int .i64 (x).p.k.e, .int .i64 (x).p.id, .int .i64 (x).p.ver, .int .i64 (x).sz])
    have hbx : Below wr.heap.size wr (wr.alloc (.cells #[.string (str (x).nm), .int .i64 (x).k.t, .int .i64 (x).k.c, .int .i64 (x).k.e, .int .i64 (x).b, .int .i64 (x).p.k.t, .int .i64 (x).p.k.c, .int .i64 (x).p.k.e, .int .i64 (x).p.id, .int .i64 (x).p.ver, .int .i64 (x).sz] 90)) := (Below.refl _ _).alloc (nl _) _
    have HR2 : Hid (BRow 90 (wr.alloc (.cells #[.string (str (x).nm), .int .i64 (x).k.t, .int .i64 (x).k.c, .int .i64 (x).k.e, .int .i64 (x).b, .int .i64 (x).p.k.t, .int .i64 (x).p.k.c, .int .i64 (x).p.k.e, .int .i64 (x).p.id, .int .i64 (x).p.ver, .int .i64 (x).sz] 90)) w1.heap.size A' c' P) := hid (World.ownsRow.below hR.out hbx)
    have HB2 : Hid (Below w1.heap.size w1 (wr.alloc (.cells #[.string (str (x).nm), .int .i64 (x).k.t, .int .i64 (x).k.c, .int .i64 (x).k.e, .int .i64 (x).b, .int .i64 (x).p.k.t, .int .i64 (x).p.k.c, .int .i64 (x).p.k.e, .int .i64 (x).p.id, .int .i64 (x).p.ver, .int .i64 (x).sz] 90))) := hid (hB.out.trans (hbx.mono hB.out.size))
    have HY2 := hid (HKY.out.keep (HB2.out.block _ HKY.out.lt))
    obtain ⟨x0, x1, x2, x3, x4, x5, x6, x7, x8, x9, x10⟩ := bbB_cells (x := x) HBX.out
    obtain ⟨y0, y1, y2, y3, y4, y5, y6, y7, y8, y9, y10⟩ := bbB_cells (x := y) HY2.out
    have s1 := str_list x.nm
    have s2 := str_list y.nm
    clear hlt hjl hbl hbl1 hr hr1 hbx
    cases q with
    | true =>
     have hsz : (wr.alloc (.cells #[.string (str (x).nm), .int .i64 (x).k.t, .int .i64 (x).k.c, .int .i64 (x).k.e, .int .i64 (x).b, .int .i64 (x).p.k.t, .int .i64 (x).p.k.c, .int .i64 (x).p.k.e, .int .i64 (x).p.id, .int .i64 (x).p.ver, .int .i64 (x).sz] 90)).heap.size = wr.heap.size + 1 := by simp
     have HE : Hid (with_ l y = (P ++ [x]) ++ wiR true (l.drop (j + 1)) y) := hid (by rw [hW.out, HST.out.1, List.append_assoc]; rfl)
     have HPL2 : Hid ((P ++ [x]).length = P.length + 1) := hid (by simp)
     clear y0 y1 y2 y3 y4 y5 y6 y7 y8 y9 y10
     go_wp2_with (at_builtin; refine wpList_appB (wr.alloc (.cells #[.string (str (x).nm), .int .i64 (x).k.t, .int .i64 (x).k.c, .int .i64 (x).k.e, .int .i64 (x).b, .int .i64 (x).p.k.t, .int .i64 (x).p.k.c, .int .i64 (x).p.k.e, .int .i64 (x).p.id, .int .i64 (x).p.ver, .int .i64 (x).sz] 90)) rfl _ _ rfl w1.heap.size A' c' P P.length rfl rfl HR2.out x _ hsz rfl HPM.out.1 HB2.out.size ?_)
     intro A3 c3' w3 ho3 hb3 _
     have HR3 : Hid (BRow 90 w3 w1.heap.size A3 c3' (P ++ [x])) := hid (by unfold BRow; rw [bcs_app, bcs_one, List.length_append]; exact ho3)
     have HB3 := hid (HB2.out.trans hb3)
     clear ho3 hb3
     go_wp2_with fail
     go_roundg (n - (j + 1))
     case measure => exact rs_meas hgk.out HJ.out
     case rel => exact ⟨j + 1, true, A3, c3', P ++ [x], by rw [HPL2.out], rfl, by first | rfl | rw [wj], hid rfl, hid HJ.out, HE, hid (by rw [HPL2.out]; have := hPL.out; simp only [Bool.toNat_true] at this ⊢; omega), HR3, HB3⟩
    | false =>
     cases hyx : Op.bytesLess y.nm x.nm with
     | false =>
      have hsz : (wr.alloc (.cells #[.string (str (x).nm), .int .i64 (x).k.t, .int .i64 (x).k.c, .int .i64 (x).k.e, .int .i64 (x).b, .int .i64 (x).p.k.t, .int .i64 (x).p.k.c, .int .i64 (x).p.k.e, .int .i64 (x).p.id, .int .i64 (x).p.ver, .int .i64 (x).sz] 90)).heap.size = wr.heap.size + 1 := by simp
      have HE : Hid (with_ l y = (P ++ [x]) ++ wiR false (l.drop (j + 1)) y) := hid (by rw [hW.out, HST.out.2.2 hyx, List.append_assoc]; rfl)
      have HPL2 : Hid ((P ++ [x]).length = P.length + 1) := hid (by simp)
      go_wp2_with (at_builtin; refine wpList_appB (wr.alloc (.cells #[.string (str (x).nm), .int .i64 (x).k.t, .int .i64 (x).k.c, .int .i64 (x).k.e, .int .i64 (x).b, .int .i64 (x).p.k.t, .int .i64 (x).p.k.c, .int .i64 (x).p.k.e, .int .i64 (x).p.id, .int .i64 (x).p.ver, .int .i64 (x).sz] 90)) rfl _ _ rfl w1.heap.size A' c' P P.length rfl rfl HR2.out x _ hsz rfl HPM.out.1 HB2.out.size ?_)
      intro A3 c3' w3 ho3 hb3 _
      have HR3 : Hid (BRow 90 w3 w1.heap.size A3 c3' (P ++ [x])) := hid (by unfold BRow; rw [bcs_app, bcs_one, List.length_append]; exact ho3)
      have HB3 := hid (HB2.out.trans hb3)
      clear ho3 hb3 y0 y1 y2 y3 y4 y5 y6 y7 y8 y9 y10
      go_wp2_with fail
      go_roundg (n - (j + 1))
      case measure => exact rs_meas hgk.out HJ.out
      case rel => exact ⟨j + 1, false, A3, c3', P ++ [x], by rw [HPL2.out], rfl, by first | rfl | rw [wj], hid rfl, hid HJ.out, HE, hid (by rw [HPL2.out]; have := hPL.out; simp only [Bool.toNat_false] at this ⊢; omega), HR3, HB3⟩
     | true =>
      have hsz : (wr.alloc (.cells #[.string (str (x).nm), .int .i64 (x).k.t, .int .i64 (x).k.c, .int .i64 (x).k.e, .int .i64 (x).b, .int .i64 (x).p.k.t, .int .i64 (x).p.k.c, .int .i64 (x).p.k.e, .int .i64 (x).p.id, .int .i64 (x).p.ver, .int .i64 (x).sz] 90)).heap.size = wr.heap.size + 1 := by simp
      have HE : Hid (with_ l y = (P ++ [y] ++ [x]) ++ wiR true (l.drop (j + 1)) y) := hid (by rw [hW.out, HST.out.2.1 hyx]; simp)
      have HPL2 : Hid ((P ++ [y]).length = P.length + 1) := hid (by simp)
      have HPL3 : Hid ((P ++ [y] ++ [x]).length = P.length + 1 + 1) := hid (by simp)
      have HAL : Hid (∀ d, A'.map (·.block) = some d → d < wr.heap.size) := hid (fun d hd => own_lt hR.out d hd)
      go_wp2_with (at_builtin; refine wpList_appB (wr.alloc (.cells #[.string (str (x).nm), .int .i64 (x).k.t, .int .i64 (x).k.c, .int .i64 (x).k.e, .int .i64 (x).b, .int .i64 (x).p.k.t, .int .i64 (x).p.k.c, .int .i64 (x).p.k.e, .int .i64 (x).p.id, .int .i64 (x).p.ver, .int .i64 (x).sz] 90)) rfl _ _ rfl w1.heap.size A' c' P P.length rfl rfl HR2.out y _ hsz rfl HPM.out.1 HB2.out.size ?_)
      intro A3 c3' w3 ho3 hb3 hg3
      have HR3 : Hid (BRow 90 w3 w1.heap.size A3 c3' (P ++ [y])) := hid (by unfold BRow; rw [bcs_app, bcs_one, List.length_append]; exact ho3)
      have HB3 := hid (HB2.out.trans hb3)
      have HBX3 := hid (HBX.out.keep (hg3.block _ HBX.out.lt (fun e => by have := HAL.out _ e.symm; omega)))
      clear ho3 hb3 hg3 x0 x1 x2 x3 x4 x5 x6 x7 x8 x9 x10 y0 y1 y2 y3 y4 y5 y6 y7 y8 y9 y10 c0 c1 c2 c3 c4 c5 c6 c7 c8 c9 c10
      obtain ⟨x0, x1, x2, x3, x4, x5, x6, x7, x8, x9, x10⟩ := bbB_cells (x := x) HBX3.out
      generalize hw3 : w3.heap.size = z3 at *
      go_wp2_with (at_builtin; refine wpList_appB w3 rfl _ _ rfl w1.heap.size A3 c3' (P ++ [y]) (P.length + 1) HPL2.out rfl (by have := HR3.out; unfold BRow at this; rwa [HPL2.out] at this) x _ hw3 rfl HPM.out.2 HB3.out.size ?_)
      intro A4 c4' w4 ho4 hb4 _
      have HR4 : Hid (BRow 90 w4 w1.heap.size A4 c4' (P ++ [y] ++ [x])) := hid (by unfold BRow; rw [bcs_app, bcs_one, HPL3.out]; exact ho4)
      have HB4 := hid (HB3.out.trans hb4)
      clear ho4 hb4
      go_wp2_with fail
      go_roundg (n - (j + 1))
      case measure => exact rs_meas hgk.out HJ.out
      case rel => exact ⟨j + 1, true, A4, c4', P ++ [y] ++ [x], by rw [HPL3.out], rfl, by first | rfl | rw [wj], hid rfl, hid HJ.out, HE, hid (by rw [HPL3.out]; have := hPL.out; (try simp only [Bool.toNat_true, Bool.toNat_false] at this ⊢); omega), HR4, HB4⟩
  · have hjn : j = n := by have := hj.out; omega
    subst hjn
    have j2 : ¬ (j : Int) < (j : Int) := fun e => absurd e (Int.lt_irrefl _)
    have HD : Hid (l.drop j = []) := hid (List.drop_eq_nil_of_le (Nat.le_of_eq HLN.out))
    have HFB := HGE
    clear hge hj hgk
    cases q with
    | true =>
     have HE : Hid (with_ l y = P) := hid (by rw [hW.out, HD.out]; unfold wiR; rw [if_pos rfl, List.append_nil])
     go_wp2
     go_ret
     exact ⟨A', c', by rw [HE.out]; rfl, by rw [HE.out]; exact ownsRow_base_a hR.out HB0.out.size, by rw [HYB.out]; exact HB0.out.trans (hB.out.mono (Nat.le_of_lt HFB.out))⟩
    | false =>
     have HE : Hid (with_ l y = P ++ [y]) := hid (by rw [hW.out, HD.out]; rfl)
     have HPL2 : Hid ((P ++ [y]).length = P.length + 1) := hid (by simp)
     have HY2 := hid (HKY.out.keep (hB.out.block _ HKY.out.lt))
     obtain ⟨y0, y1, y2, y3, y4, y5, y6, y7, y8, y9, y10⟩ := bbB_cells (x := y) HY2.out
     have HPM : Hid (P.length ≤ 1000000) := hid (by have h1 := hPL.out; have h2 := HN.out; simp only [Bool.toNat_false] at h1; omega)
     generalize hwr : wr.heap.size = zr at *
     go_wp2_with (at_builtin; refine wpList_appB wr rfl _ _ rfl w1.heap.size A' c' P P.length rfl rfl hR.out y _ hwr rfl HPM.out hB.out.size ?_)
     intro A3 c3' w3 ho3 hb3 _
     have HR3 : Hid (BRow 90 w3 w1.heap.size A3 c3' (P ++ [y])) := hid (by unfold BRow; rw [bcs_app, bcs_one, HPL2.out]; exact ho3)
     have HB3 := hid (hB.out.trans hb3)
     clear ho3 hb3 y0 y1 y2 y3 y4 y5 y6 y7 y8 y9 y10
     go_wp2
     go_ret
     exact ⟨A3, c3', by rw [HE.out, HPL2.out]; rfl, by rw [HE.out]; exact ownsRow_base_a HR3.out HB0.out.size, by rw [HYB.out]; exact HB0.out.trans (HB3.out.mono (Nat.le_of_lt HFB.out))⟩
theorem rname_c (nm : List UInt8) (hn : nm.length ≤ maxLen) (w : World) : Calls Tryz.prog 82 #[.string (str nm)] w fun e w' => e = .returned (.bool (decide (nmOk nm))) ∧ w = w' := by
 have hs := str_size nm
 have s1 := str_list nm
 by_cases h0 : nm = []
 · subst h0
   go_enter Tryz.func82, Tryz.ntmps82
   go_wp2
   go_ret
   exact ⟨rfl, rfl⟩
 · have e0 : ((str nm).toList == (str []).toList) = false := str_ne h0
   have e1 : (nm == []) = false := beq_eq_false_iff_ne.2 h0
   have e2 : (nm.isEmpty) = false := by cases nm with | nil => exact absurd rfl h0 | cons _ _ => rfl
   obtain ⟨q, hq⟩ : ∃ q, q = decide (nm.length ≤ 40) := ⟨_, rfl⟩
   have HQ : Hid (decide (nmOk nm) = q) := hid (by rw [hq]; exact decide_eq_decide.2 ⟨fun h => h.2, fun h => ⟨h0, h⟩⟩)
   have e3 : decide (((nm.length : Nat) : Int) ≤ 40) = q := by rw [hq]; simp; omega
   have e4 : decide (nm.length ≤ 40) = q := hq.symm
   clear hq h0
   go_enter Tryz.func82, Tryz.ntmps82
   go_wp2
   go_ret
   exact ⟨by rw [HQ.out]; rfl, rfl⟩
theorem eq_blob (a b : Bb) (wx : World) : (Op.equalIn 10000 90 (.agg #[.string (str (a).nm), .int .i64 (a).k.t, .int .i64 (a).k.c, .int .i64 (a).k.e, .int .i64 (a).b, .int .i64 (a).p.k.t, .int .i64 (a).p.k.c, .int .i64 (a).p.k.e, .int .i64 (a).p.id, .int .i64 (a).p.ver, .int .i64 (a).sz]) (.agg #[.string (str (b).nm), .int .i64 (b).k.t, .int .i64 (b).k.c, .int .i64 (b).k.e, .int .i64 (b).b, .int .i64 (b).p.k.t, .int .i64 (b).p.k.c, .int .i64 (b).p.k.e, .int .i64 (b).p.id, .int .i64 (b).p.ver, .int .i64 (b).sz])).run Tryz.prog wx = .ok (decide (a = b)) wx := by
 obtain ⟨n1, ⟨a1, a2, a3⟩, a4, ⟨⟨a5, a6, a7⟩, a8, a9⟩, a10⟩ := a
 obtain ⟨n2, ⟨b1, b2, b3⟩, b4, ⟨⟨b5, b6, b7⟩, b8, b9⟩, b10⟩ := b
 go_simp
 rw [str_list, str_list]
 by_cases h0 : n1 = n2
 · subst h0
   by_cases h1 : a1 = b1
   · subst h1
     by_cases h2 : a2 = b2
     · subst h2
       by_cases h3 : a3 = b3
       · subst h3
         by_cases h4 : a4 = b4
         · subst h4
           by_cases h5 : a5 = b5
           · subst h5
             by_cases h6 : a6 = b6
             · subst h6
               by_cases h7 : a7 = b7
               · subst h7
                 by_cases h8 : a8 = b8
                 · subst h8
                   by_cases h9 : a9 = b9
                   · subst h9
                     by_cases h10 : a10 = b10
                     · subst h10
                       simp
                     · simp [h10]
                   · simp [h9]
                 · simp [h8]
               · simp [h7]
             · simp [h6]
           · simp [h5]
         · simp [h4]
       · simp [h3]
     · simp [h2]
   · simp [h1]
 · simp [h0]
theorem exec_rowB {w : World} {b off : Nat} {op : Oper} {a : Act} {y : Bb} (x : Operand) (ho : op.op = .load 90 x) (hx : a.eval x = .pointer (some ⟨b, off, none⟩)) (h : w.rangeAt b off y.cells) : (execOp a.eval op).run Tryz.prog w = .ok (.value (.agg #[.string (str (y).nm), .int .i64 (y).k.t, .int .i64 (y).k.c, .int .i64 (y).k.e, .int .i64 (y).b, .int .i64 (y).p.k.t, .int .i64 (y).p.k.c, .int .i64 (y).p.k.e, .int .i64 (y).p.id, .int .i64 (y).p.ver, .int .i64 (y).sz])) w :=
 exec_load_mid 90 x ho b off hx y.cells _ h Tryz.underlying90 rfl Tryz.sizeBlob
theorem rangeAt_heap {w w' : World} {b off : Nat} {l : List Value} (h : w.rangeAt b off l) (hk : w'.heap[b]? = w.heap[b]?) : w'.rangeAt b off l := rangeAt_keep h hk
theorem bb_take {a b : List Bb} {j : Nat} (ha : j < a.length) (hb : j < b.length) (h : a.take j = b.take j) : (a[j] = b[j] → a.take (j + 1) = b.take (j + 1)) ∧ (a[j] ≠ b[j] → a ≠ b) := by
 refine ⟨fun e => ?_, fun e e2 => e (by subst e2; rfl)⟩
 rw [List.take_add_one, List.take_add_one, List.getElem?_eq_getElem ha, List.getElem?_eq_getElem hb, h, e]
theorem meas_jb {k m j : Nat} (h : k = m - j) (hj : j < m) : m - (j + 1) < k := by omega
theorem ssame_c {w : World} {ba bb c d : Nat} {A B : Option Addr} {a b : List Bb} (ha : BRow 90 w ba A c a) (hb : BRow 90 w bb B d b) (hn : a.length ≤ 1000000) :
 Calls Tryz.prog 29 #[.slice A a.length c, .slice B b.length d] w fun e w' => e = .returned (.bool (decide (a = b))) ∧ Below w.heap.size w w' := by
 have HA := hid ha
 have HB := hid hb
 have HN := hid hn
 clear ha hb hn
 obtain ⟨n, hla⟩ : ∃ n, a.length = n := ⟨_, rfl⟩
 obtain ⟨m, hlb⟩ : ∃ m, b.length = m := ⟨_, rfl⟩
 rw [hla, hlb]
 by_cases hl : n = m
 · subst hl
   have e1 : ((n : Int) != (n : Int)) = false := by simp
   have HL := hid (And.intro hla hlb)
   clear hla hlb
   go_enter Tryz.func29, Tryz.ntmps29
   go_wp2_with fail
   clear e1
   go_loopg [13] n (fun kk iv wr => ∃ j : Nat, iv = .int .i64 (j : Int) ∧ Hid (kk = n - j) ∧ Hid (j ≤ n) ∧ Hid (Below w.heap.size w wr) ∧ Hid (a.take j = b.take j))
   case atStart => exact ⟨0, rfl, hid rfl, hid (Nat.zero_le _), hid (Below.refl _ _), hid rfl⟩
   case round =>
    obtain ⟨j, rfl, hgk, hj, hBW, hT⟩ := hrel
    rename World => wr
    rcases Nat.lt_or_ge j n with hlt | hge
    · have hla2 : j < a.length := by rw [HL.out.1]; exact hlt
      have hlb2 : j < b.length := by rw [HL.out.2]; exact hlt
      have j1 : (0 : Int) ≤ (j : Int) := by omega
      have j2 : (j : Int) < (n : Int) := by omega
      have j3 : decide ((j : Int) < (n : Int)) = true := by simpa using hlt
      have wj : wrap64 ((j : Int) + 1) = ((j + 1 : Nat) : Int) := by have := HN.out; have := HL.out; unfold wrap64; omega
      have HJ := hid hlt
      obtain ⟨ga, hAe, hga, hra⟩ := HA.out.elem hla2
      obtain ⟨gb, hBe, hgb, hrb⟩ := HB.out.elem hlb2
      have HSP := hid (bb_take hla2 hlb2 hT.out)
      generalize a[j] = x at *
      generalize b[j] = y at *
      have hra1 := rangeAt_heap hra (hBW.out.block ga hga)
      have hrb1 := rangeAt_heap hrb (hBW.out.block gb hgb)
      subst hAe hBe
      clear hlt hla2 hlb2 hra hrb
      obtain ⟨q, hq⟩ : ∃ q, q = decide (x = y) := ⟨_, rfl⟩
      have HEQ : Hid (∀ wx : World, (Op.equalIn 10000 90 (.agg #[.string (str (x).nm), .int .i64 (x).k.t, .int .i64 (x).k.c, .int .i64 (x).k.e, .int .i64 (x).b, .int .i64 (x).p.k.t, .int .i64 (x).p.k.c, .int .i64 (x).p.k.e, .int .i64 (x).p.id, .int .i64 (x).p.ver, .int .i64 (x).sz]) (.agg #[.string (str (y).nm), .int .i64 (y).k.t, .int .i64 (y).k.c, .int .i64 (y).k.e, .int .i64 (y).b, .int .i64 (y).p.k.t, .int .i64 (y).p.k.c, .int .i64 (y).p.k.e, .int .i64 (y).p.id, .int .i64 (y).p.ver, .int .i64 (y).sz])).run Tryz.prog wx = .ok q wx) := hid (fun wx => by rw [hq]; exact eq_blob x y wx)
      have HQ := hid hq
      clear hq
      go_wp2_with fail
      refine wp_region_held_drew (S := fun wx => wx.rangeAt ga (j * 11) x.cells ∧ wx.rangeAt gb (j * 11) y.cells) (by kernel_rfl) ⟨rangeAt_heap hra1 rfl, rangeAt_heap hrb1 rfl⟩ (fun HS => ?_)
      refine qT 0 ?v0 ?y0 HS ?r0
      case y0 => refine qI fun wS hSw => ?_; go_simp; try with_reducible rfl
      try simp only [Act.put, zA]
      refine qT 1 ?v1 ?y1 HS ?r1
      case y1 => refine qI fun wS hSw => ?_; go_simp; try with_reducible rfl
      try simp only [Act.put, zA]
      refine qT 2 ?v2 ?y2 HS ?r2
      case y2 => refine qI fun wS hSw => ?_; go_simp; try with_reducible rfl
      try simp only [Act.put, zA]
      refine qT 4 ?v4 ?y4 HS ?r4
      case y4 => refine qI fun wS hSw => ?_; go_simp; try with_reducible rfl
      try simp only [Act.put, zA]
      refine qT 5 ?v5 ?y5 HS ?r5
      case y5 => refine qI fun wS hSw => ?_; go_simp; try with_reducible rfl
      try simp only [Act.put, zA]
      refine qT 6 ?v6 ?y6 HS ?r6
      case y6 => refine qI fun wS hSw => ?_; go_simp; try with_reducible rfl
      try simp only [Act.put, zA]
      refine qT 3 ?v3 ?y3 HS ?r3
      case y3 =>
       refine qI fun wS hSw => ?_
       refine Eq.trans (exec_rowB (.tmp 18) ?_ ?_ hSw.1) ?_
       · rfl
       · rfl
       · with_reducible rfl
      try simp only [Act.put, zA]
      refine qT 7 ?v7 ?y7 HS ?r7
      case y7 =>
       refine qI fun wS hSw => ?_
       refine Eq.trans (exec_rowB (.tmp 22) ?_ ?_ hSw.2) ?_
       · rfl
       · rfl
       · with_reducible rfl
      try simp only [Act.put, zA]
      refine qT 8 ?v8 ?y8 HS ?r8
      case y8 =>
       refine qI fun wS hSw => ?_
       have heq := HEQ.out
       go_simp
       try with_reducible rfl
      try simp only [Act.put, zA]
      refine qD ?_
      rcases hqq : q with _ | _
      · have hxy : x ≠ y := of_decide_eq_false (HQ.out.symm.trans hqq)
        clear hqq HEQ HQ
        have HD : Hid (decide (a = b) = false) := hid (decide_eq_false (HSP.out.2 hxy))
        clear hxy
        go_wp2
        go_ret
        exact ⟨by rw [HD.out]; rfl, hBW.out.drew⟩
      · have hxy : x = y := of_decide_eq_true (HQ.out.symm.trans hqq)
        clear hqq HEQ HQ
        have HT := hid (HSP.out.1 hxy)
        clear hxy
        have HBW2 : Hid (Below w.heap.size w wr.drew) := hid hBW.out.drew
        go_wp2_with fail
        go_roundg (n - (j + 1))
        case measure => exact meas_jb hgk.out HJ.out
        case rel => exact ⟨j + 1, by first | rfl | rw [wj], hid rfl, hid HJ.out, HBW2, HT⟩
    · have hjn : j = n := by have := hj.out; omega
      subst hjn
      have j2 : ¬ (j : Int) < (j : Int) := by omega
      have HD : Hid (decide (a = b) = true) := hid (decide_eq_true (by have := hT.out; rwa [List.take_of_length_le (Nat.le_of_eq HL.out.1), List.take_of_length_le (Nat.le_of_eq HL.out.2)] at this))
      clear hge hj hgk
      go_wp2
      go_ret
      exact ⟨by rw [HD.out]; rfl, hBW.out⟩
 · have e1 : ((n : Int) != (m : Int)) = true := by simp; omega
   have e2 : ¬ (n : Int) = (m : Int) := by omega
   have HD : Hid (decide (a = b) = false) := hid (decide_eq_false fun e => hl (by rw [← hla, ← hlb, e]))
   go_enter Tryz.func29, Tryz.ntmps29
   go_wp2
   go_ret
   exact ⟨by rw [HD.out]; rfl, Below.refl _ _⟩
theorem rkey_c (k : Ky) (w : World) : Calls Tryz.prog 83 #[.agg #[.int .i64 k.t, .int .i64 k.c, .int .i64 k.e]] w fun e w' => e = .returned (.bool (decide k.right)) ∧ Below w.heap.size w w' := by
 have HB : Hid (Below w.heap.size w (w.alloc (.cells #[.int .i64 k.t, .int .i64 k.c, .int .i64 k.e] 54))) := hid ((Below.refl _ _).alloc (nl _) _)
 have hk := Blk.new w 54 #[.int .i64 k.t, .int .i64 k.c, .int .i64 k.e]
 have c0 := (hk.cell 0).trans rfl
 have c1 := (hk.cell 1).trans rfl
 have c2 := (hk.cell 2).trans rfl
 clear hk
 by_cases h0 : 0 ≤ k.t
 · have e0 : decide ((0 : Int) ≤ k.t) = true := decide_eq_true h0
   by_cases h1 : 0 ≤ k.c
   · have e1 : decide ((0 : Int) ≤ k.c) = true := decide_eq_true h1
     by_cases h2 : 0 ≤ k.e
     · have e2 : decide ((0 : Int) ≤ k.e) = true := decide_eq_true h2
       have HF : Hid (decide k.right = true) := hid (decide_eq_true (by unfold Ky.right; omega))
       clear h0 h1 h2
       go_enter Tryz.func83, Tryz.ntmps83
       go_wp2
       go_ret
       exact ⟨by rw [HF.out]; rfl, HB.out⟩
     · have e2 : decide ((0 : Int) ≤ k.e) = false := decide_eq_false h2
       have HF : Hid (decide k.right = false) := hid (decide_eq_false (by unfold Ky.right; omega))
       clear h0 h1 h2
       go_enter Tryz.func83, Tryz.ntmps83
       go_wp2
       go_ret
       exact ⟨by rw [HF.out]; rfl, HB.out⟩
   · have e1 : decide ((0 : Int) ≤ k.c) = false := decide_eq_false h1
     have HF : Hid (decide k.right = false) := hid (decide_eq_false (by unfold Ky.right; omega))
     clear h0 h1
     go_enter Tryz.func83, Tryz.ntmps83
     go_wp2
     go_ret
     exact ⟨by rw [HF.out]; rfl, HB.out⟩
 · have e0 : decide ((0 : Int) ≤ k.t) = false := decide_eq_false h0
   have HF : Hid (decide k.right = false) := hid (decide_eq_false (by unfold Ky.right; omega))
   clear h0
   go_enter Tryz.func83, Tryz.ntmps83
   go_wp2
   go_ret
   exact ⟨by rw [HF.out]; rfl, HB.out⟩
theorem rs_eqk (a b : Ky) (wx : World) : (Op.equalIn 10000 54 (.agg #[.int .i64 a.t, .int .i64 a.c, .int .i64 a.e]) (.agg #[.int .i64 b.t, .int .i64 b.c, .int .i64 b.e])).run Tryz.prog wx = .ok (decide (a = b)) wx := by
 obtain ⟨a1, a2, a3⟩ := a
 obtain ⟨b1, b2, b3⟩ := b
 go_simp
 by_cases h1 : a1 = b1
 · subst h1
   by_cases h2 : a2 = b2
   · subst h2
     by_cases h3 : a3 = b3
     · subst h3; simp
     · simp [h3]
   · simp [h2]
 · simp [h1]
theorem rr_take {l : List Bb} {j : Nat} (hj : j < l.length) (h : (∀ k, ∀ h2 : k < l.length, k < j → bbOk l[k]) ∧ (l.take j).Pairwise (fun y x => y.b ≠ x.b ∧ risen y x)) (hx : bbOk l[j]) (hy : ∀ k, ∀ h2 : k < l.length, k < j → l[k].b ≠ l[j].b ∧ risen l[k] l[j]) :
 (∀ k, ∀ h2 : k < l.length, k < j + 1 → bbOk l[k]) ∧ (l.take (j + 1)).Pairwise (fun y x => y.b ≠ x.b ∧ risen y x) := by
 refine ⟨fun k h2 h3 => ?_, ?_⟩
 · by_cases e : k = j
   · subst e; exact hx
   · exact h.1 k h2 (by omega)
 · rw [List.take_succ_eq_append_getElem hj, List.pairwise_append]
   refine ⟨h.2, List.pairwise_singleton _ _, fun y hy2 z hz => ?_⟩
   rw [List.mem_singleton] at hz
   subst hz
   obtain ⟨k, hk, rfl⟩ := List.mem_take_iff_getElem.1 hy2
   exact hy k (by omega) (by omega)
theorem rr_all {l : List Bb} {n : Nat} (hn : l.length = n) (h : (∀ k, ∀ h2 : k < l.length, k < n → bbOk l[k]) ∧ (l.take n).Pairwise (fun y x => y.b ≠ x.b ∧ risen y x)) : decide (Rgt l) = decide (n ≤ 1000) := by
 refine decide_eq_decide.2 ⟨fun h2 => by rw [← hn]; exact h2.2.2, fun h2 => ⟨fun x hx => ?_, ?_, by rw [hn]; exact h2⟩⟩
 · obtain ⟨k, hk, rfl⟩ := List.mem_iff_getElem.1 hx
   exact h.1 k hk (by omega)
 · have := h.2
   rwa [List.take_of_length_le (Nat.le_of_eq hn)] at this
theorem rr_bad {l : List Bb} {j : Nat} (hj : j < l.length) (h : ¬ bbOk l[j]) : decide (Rgt l) = false := decide_eq_false fun e => h (e.1 _ (List.getElem_mem hj))
theorem rr_pair {l : List Bb} {k j : Nat} (hj : j < l.length) (h2 : k < l.length) (hk : k < j) (h : ¬ (l[k].b ≠ l[j].b ∧ risen l[k] l[j])) : decide (Rgt l) = false := decide_eq_false fun e => h ((List.pairwise_iff_getElem.1 e.2.1) k j h2 hj hk)
theorem rsright_c (A : Option Addr) (n c : Nat) (l : List Bb) (w : World) (h : BSl w w.heap.size A n l) (hc : n ≤ c) (hn : n ≤ 100000) (hnm : ∀ x ∈ l, x.nm.length ≤ maxLen) :
 Calls Tryz.prog 41 #[.slice A n c] w fun e w' => e = .returned (.bool (decide (Rgt l))) ∧ Below w.heap.size w w' := by
 have HL := hid h
 have HN := hid (And.intro hn hc)
 have HLN := hid h.1
 have HNM := hid hnm
 clear h hn hc hnm
 go_enter Tryz.func41, Tryz.ntmps41
 go_wp2_with fail
 go_loopg [9] n (fun kk iv wr => ∃ j : Nat, iv = .int .i64 (j : Int) ∧ Hid (kk = n - j) ∧ Hid (j ≤ n) ∧ Hid ((∀ k, ∀ h2 : k < l.length, k < j → bbOk l[k]) ∧ (l.take j).Pairwise (fun y x => y.b ≠ x.b ∧ risen y x)) ∧ Hid (Below w.heap.size w wr))
 case atStart => exact ⟨0, rfl, hid rfl, hid (Nat.zero_le _), hid ⟨fun k _ h3 => absurd h3 (Nat.not_lt_zero k), List.Pairwise.nil⟩, hid (Below.refl _ _)⟩
 case round =>
  obtain ⟨j, rfl, hgk, hj, hP, hB⟩ := hrel
  rename World => wr
  rcases Nat.lt_or_ge j n with hlt | hge
  · have HJ := hid hlt
    have hjl : j < l.length := by rw [HLN.out]; exact hlt
    have HJL := hid hjl
    have j1 : (0 : Int) ≤ (j : Int) := Int.natCast_nonneg j
    have j2 : (j : Int) < (n : Int) := Int.ofNat_lt.2 hlt
    have j3 : decide ((j : Int) < (n : Int)) = true := decide_eq_true j2
    have j4 : decide (j < n) = true := decide_eq_true hlt
    have j5 : (j : Int) ≤ (c : Int) := Int.ofNat_le.2 (Nat.le_trans (Nat.le_of_lt hlt) HN.out.2)
    have j6 : j ≤ c := Nat.le_trans (Nat.le_of_lt hlt) HN.out.2
    have wj : wrap64 ((j : Int) + 1) = ((j + 1 : Nat) : Int) := rs_w HN.out.1 hlt
    obtain ⟨b, off, rfl, hbl, hr⟩ := HL.out.2 j hjl
    have HBL := hid hbl
    have HBAD := hid (rr_bad (l := l) hjl)
    have HTAKE := hid (rr_take hjl hP.out)
    have HPAIR := hid (fun (k : Nat) (h2 : k < l.length) (hk : k < j) => rr_pair (l := l) hjl h2 hk)
    have HNMX := hid (HNM.out _ (List.getElem_mem hjl))
    generalize hxl : l[j] = x at *
    clear hxl
    obtain ⟨c0, c1, c2, c3, c4, c5, c6, c7, c8, c9, c10⟩ := range11 (rangeAt_keep hr (hB.out.block b hbl))
    have HBX := hid (Blk.new wr 90 #[.string (str (x).nm), .int .i64 (x).k.t, .int .i64 (x).k.c, .int .i64 (x).k.e, .int .i64 (x).b, .int .i64 (x).p.k.t, .int .i64 (x).p.k.c, .int .i64 (x).p.k.e, .int .i64 (x).p.id, .int .i64 (x).p.ver, .int .i64 (x).sz])
    have hbx : Below wr.heap.size wr (wr.alloc (.cells #[.string (str (x).nm), .int .i64 (x).k.t, .int .i64 (x).k.c, .int .i64 (x).k.e, .int .i64 (x).b, .int .i64 (x).p.k.t, .int .i64 (x).p.k.c, .int .i64 (x).p.k.e, .int .i64 (x).p.id, .int .i64 (x).p.ver, .int .i64 (x).sz] 90)) := (Below.refl _ _).alloc (nl _) _
    have HB2 : Hid (Below w.heap.size w (wr.alloc (.cells #[.string (str (x).nm), .int .i64 (x).k.t, .int .i64 (x).k.c, .int .i64 (x).k.e, .int .i64 (x).b, .int .i64 (x).p.k.t, .int .i64 (x).p.k.c, .int .i64 (x).p.k.e, .int .i64 (x).p.id, .int .i64 (x).p.ver, .int .i64 (x).sz] 90))) := hid (hB.out.trans (hbx.mono hB.out.size))
    obtain ⟨x0, x1, x2, x3, x4, x5, x6, x7, x8, x9, x10⟩ := bbB_cells (x := x) HBX.out
    clear hlt hjl hbl hr hbx
    go_wp2_with fail
    clear c0 c1 c2 c3 c4 c5 c6 c7 c8 c9 c10
    refine (rname_c x.nm HNMX.out _).mono ?_
    rintro e w0 ⟨rfl, rfl⟩
    by_cases hb0 : nmOk x.nm
    · rw [decide_eq_true hb0]
      have HK0 := hid hb0
      clear hb0
      go_wp2_with fail
      refine (rkey_c x.k _).mono ?_
      rintro e w3 ⟨rfl, hb3⟩
      have HB3 := hid (HB2.out.trans (hb3.mono HB2.out.size))
      have HBX3 := hid (HBX.out.keep (hb3.block _ HBX.out.lt))
      clear hb3 x0 x1 x2 x3 x4 x5 x6 x7 x8 x9 x10 HB2 HBX
      obtain ⟨x0, x1, x2, x3, x4, x5, x6, x7, x8, x9, x10⟩ := bbB_cells (x := x) HBX3.out
      by_cases hb1 : x.k.right
      · rw [decide_eq_true hb1]
        have HK1 := hid hb1
        clear hb1
        obtain ⟨q, hq⟩ : ∃ q, q = decide (x.p.k = x.k) := ⟨_, rfl⟩
        have heq : ∀ wx : World, (Op.equalIn 10000 54 (.agg #[.int .i64 x.p.k.t, .int .i64 x.p.k.c, .int .i64 x.p.k.e]) (.agg #[.int .i64 x.k.t, .int .i64 x.k.c, .int .i64 x.k.e])).run Tryz.prog wx = .ok q wx := fun wx => by rw [hq]; exact rs_eqk x.p.k x.k wx
        have HQ := hid hq
        clear hq
        cases q with
        | false =>
         have HD := hid (HBAD.out fun e => absurd e.2.2.1 (of_decide_eq_false HQ.out.symm))
         go_wp2
         go_ret
         exact ⟨by rw [HD.out]; rfl, HB3.out⟩
        | true =>
         by_cases g0 : x.p.id < 0
         · have f0 : decide (x.p.id < 0) = true := decide_eq_true g0
           have HD := hid (HBAD.out fun e => absurd g0 (Int.not_lt.2 e.2.2.2.1))
           clear g0
           go_wp2
           go_ret
           exact ⟨by rw [HD.out]; rfl, HB3.out⟩
         have f0 : decide (x.p.id < 0) = false := decide_eq_false g0
         by_cases g1 : x.p.ver < 0
         · have f1 : decide (x.p.ver < 0) = true := decide_eq_true g1
           have HD := hid (HBAD.out fun e => absurd g1 (Int.not_lt.2 e.2.2.2.2.1))
           clear g0 g1
           go_wp2
           go_ret
           exact ⟨by rw [HD.out]; rfl, HB3.out⟩
         have f1 : decide (x.p.ver < 0) = false := decide_eq_false g1
         by_cases g2 : x.sz < 0
         · have f2 : decide (x.sz < 0) = true := decide_eq_true g2
           have HD := hid (HBAD.out fun e => absurd g2 (Int.not_lt.2 e.2.2.2.2.2.1))
           clear g0 g1 g2
           go_wp2
           go_ret
           exact ⟨by rw [HD.out]; rfl, HB3.out⟩
         have f2 : decide (x.sz < 0) = false := decide_eq_false g2
         by_cases g3 : 65536 < x.sz
         · have f3 : decide (65536 < x.sz) = true := decide_eq_true g3
           have HD := hid (HBAD.out fun e => absurd g3 (Int.not_lt.2 e.2.2.2.2.2.2.1))
           clear g0 g1 g2 g3
           go_wp2
           go_ret
           exact ⟨by rw [HD.out]; rfl, HB3.out⟩
         have f3 : decide (65536 < x.sz) = false := decide_eq_false g3
         by_cases g4 : x.b < 2
         · have f4 : decide (x.b < 2) = true := decide_eq_true g4
           have HD := hid (HBAD.out fun e => absurd g4 (Int.not_lt.2 e.2.2.2.2.2.2.2.1))
           clear g0 g1 g2 g3 g4
           go_wp2
           go_ret
           exact ⟨by rw [HD.out]; rfl, HB3.out⟩
         have f4 : decide (x.b < 2) = false := decide_eq_false g4
         by_cases g5 : 4095 < x.b
         · have f5 : decide (4095 < x.b) = true := decide_eq_true g5
           have HD := hid (HBAD.out fun e => absurd g5 (Int.not_lt.2 e.2.2.2.2.2.2.2.2))
           clear g0 g1 g2 g3 g4 g5
           go_wp2
           go_ret
           exact ⟨by rw [HD.out]; rfl, HB3.out⟩
         have f5 : decide (4095 < x.b) = false := decide_eq_false g5
         have HOKX : Hid (bbOk x) := hid ⟨HK0.out, HK1.out, of_decide_eq_true HQ.out.symm, Int.not_lt.1 g0, Int.not_lt.1 g1, Int.not_lt.1 g2, Int.not_lt.1 g3, Int.not_lt.1 g4, Int.not_lt.1 g5⟩
         clear g0 g1 g2 g3 g4 g5
         go_wp2_with fail
         go_loopg [68] j (fun k2 iv wq => ∃ k : Nat, iv = .int .i64 (k : Int) ∧ Hid (k2 = j - k) ∧ Hid (k ≤ j) ∧ Hid (∀ k', ∀ h2 : k' < l.length, k' < k → l[k'].b ≠ x.b ∧ risen l[k'] x) ∧ Hid (Below w.heap.size w wq) ∧ Hid (Blk wq wr.heap.size 90 #[.string (str (x).nm), .int .i64 (x).k.t, .int .i64 (x).k.c, .int .i64 (x).k.e, .int .i64 (x).b, .int .i64 (x).p.k.t, .int .i64 (x).p.k.c, .int .i64 (x).p.k.e, .int .i64 (x).p.id, .int .i64 (x).p.ver, .int .i64 (x).sz]))
         case atStart => exact ⟨0, rfl, hid rfl, hid (Nat.zero_le _), hid (fun k' _ h3 => absurd h3 (Nat.not_lt_zero k')), HB3, HBX3⟩
         case round =>
         obtain ⟨k, rfl, hgk2, hk, hY, hB4, hX4⟩ := hrel
         clear HB3 HBX3 x0 x1 x2 x3 x4 x5 x6 x7 x8 x9 x10
         rename World => wq
         rcases Nat.lt_or_ge k j with hlt2 | hge2
         · have HKJ := hid hlt2
           have hkl : k < l.length := Nat.lt_trans hlt2 HJL.out
           have HKL := hid hkl
           have k1 : (0 : Int) ≤ (k : Int) := Int.natCast_nonneg k
           have k2 : (k : Int) < (j : Int) := Int.ofNat_lt.2 hlt2
           have k3 : decide ((k : Int) < (j : Int)) = true := decide_eq_true k2
           have k4 : decide (k < j) = true := decide_eq_true hlt2
           have wk : wrap64 ((k : Int) + 1) = ((k + 1 : Nat) : Int) := rs_w HN.out.1 (Nat.lt_trans hlt2 HJ.out)
           obtain ⟨b2, off2, hbe, hbl2, hr2⟩ := HL.out.2 k hkl
           injection hbe with hbe
           injection hbe with h1 h2 _
           subst h1 h2
           have HPR := hid (HPAIR.out k hkl hlt2)
           have HYS : Hid ((l[k].b ≠ x.b ∧ risen l[k] x) → ∀ k', ∀ h2 : k' < l.length, k' < k + 1 → l[k'].b ≠ x.b ∧ risen l[k'] x) := hid (fun hh k' h2 h3 => by
            by_cases e : k' = k
            · subst e; exact hh
            · exact hY.out k' h2 (by omega))
           generalize l[k] = y at *
           obtain ⟨c0, c1, c2, c3, c4, c5, c6, c7, c8, c9, c10⟩ := range11 (rangeAt_keep hr2 (hB4.out.block _ hbl2))
           have HBY := hid (Blk.new wq 90 #[.string (str (y).nm), .int .i64 (y).k.t, .int .i64 (y).k.c, .int .i64 (y).k.e, .int .i64 (y).b, .int .i64 (y).p.k.t, .int .i64 (y).p.k.c, .int .i64 (y).p.k.e, .int .i64 (y).p.id, .int .i64 (y).p.ver, .int .i64 (y).sz])
           have hby : Below wq.heap.size wq (wq.alloc (.cells #[.string (str (y).nm), .int .i64 (y).k.t, .int .i64 (y).k.c, .int .i64 (y).k.e, .int .i64 (y).b, .int .i64 (y).p.k.t, .int .i64 (y).p.k.c, .int .i64 (y).p.k.e, .int .i64 (y).p.id, .int .i64 (y).p.ver, .int .i64 (y).sz] 90)) := (Below.refl _ _).alloc (nl _) _
           have HB5 : Hid (Below w.heap.size w (wq.alloc (.cells #[.string (str (y).nm), .int .i64 (y).k.t, .int .i64 (y).k.c, .int .i64 (y).k.e, .int .i64 (y).b, .int .i64 (y).p.k.t, .int .i64 (y).p.k.c, .int .i64 (y).p.k.e, .int .i64 (y).p.id, .int .i64 (y).p.ver, .int .i64 (y).sz] 90))) := hid (hB4.out.trans (hby.mono hB4.out.size))
           have HX5 := hid (hX4.out.keep (hby.block _ hX4.out.lt))
           obtain ⟨y0, y1, y2, y3, y4, y5, y6, y7, y8, y9, y10⟩ := bbB_cells (x := y) HBY.out
           have x0 : (wq.alloc (.cells #[.string (str (y).nm), .int .i64 (y).k.t, .int .i64 (y).k.c, .int .i64 (y).k.e, .int .i64 (y).b, .int .i64 (y).p.k.t, .int .i64 (y).p.k.c, .int .i64 (y).p.k.e, .int .i64 (y).p.id, .int .i64 (y).p.ver, .int .i64 (y).sz] 90)).cell? ⟨wr.heap.size, 0, none⟩ = some (.string (str x.nm)) := (HX5.out.cell 0).trans rfl
           have x4 : (wq.alloc (.cells #[.string (str (y).nm), .int .i64 (y).k.t, .int .i64 (y).k.c, .int .i64 (y).k.e, .int .i64 (y).b, .int .i64 (y).p.k.t, .int .i64 (y).p.k.c, .int .i64 (y).p.k.e, .int .i64 (y).p.id, .int .i64 (y).p.ver, .int .i64 (y).sz] 90)).cell? ⟨wr.heap.size, 4, none⟩ = some (.int .i64 x.b) := (HX5.out.cell 4).trans rfl
           have s1 := str_list x.nm
           have s2 := str_list y.nm
           clear hlt2 hkl hbl2 hr2 hby
           by_cases hbb : y.b = x.b
           · have d0 : (y.b == x.b) = true := by rw [hbb]; exact beq_self_eq_true _
             have HD := hid (HPR.out fun e => e.1 hbb)
             clear hbb
             go_wp2
             go_ret
             exact ⟨by rw [HD.out]; rfl, HB5.out⟩
           · have d0 : (y.b == x.b) = false := beq_eq_false_iff_ne.2 hbb
             have HNB := hid hbb
             clear hbb
             cases hyx : Op.bytesLess y.nm x.nm with
             | true =>
              have d1 : Op.bytesLess x.nm y.nm = false := less_turn hyx
              have d2 : (y.nm == x.nm) = false := by simpa using less_ne hyx
              have d3 : (x.nm == y.nm) = false := by simpa using (less_ne hyx).symm
              have HY2 := hid (HYS.out ⟨HNB.out, hyx⟩)
              go_wp2_with fail
              go_roundg (j - (k + 1))
              case measure => exact rs_meas hgk2.out HKJ.out
              case rel => exact ⟨k + 1, by first | rfl | rw [wk], hid rfl, hid HKJ.out, HY2, HB5, HX5⟩
             | false =>
              have HD := hid (HPR.out fun e => by have := e.2; unfold risen at this; rw [hyx] at this; cases this)
              by_cases he : y.nm = x.nm
              · have d1 : Op.bytesLess x.nm y.nm = false := by rw [he]; exact less_self _
                have d2 : (y.nm == x.nm) = true := by rw [he]; exact beq_self_eq_true _
                have d3 : (x.nm == y.nm) = true := by rw [he]; exact beq_self_eq_true _
                clear he
                go_wp2
                go_ret
                exact ⟨by rw [HD.out]; rfl, HB5.out⟩
              · have d1 : Op.bytesLess x.nm y.nm = true := less_tri hyx he
                have d2 : (y.nm == x.nm) = false := by simpa using he
                have d3 : (x.nm == y.nm) = false := by simpa using fun e : x.nm = y.nm => he e.symm
                clear he
                go_wp2
                go_ret
                exact ⟨by rw [HD.out]; rfl, HB5.out⟩
         · have hkj : k = j := by have := hk.out; omega
           subst hkj
           have k2 : ¬ (k : Int) < (k : Int) := fun e => absurd e (Int.lt_irrefl _)
           have HT := hid (HTAKE.out HOKX.out (fun k' h2 h3 => hY.out k' h2 h3))
           clear hge2 hk hgk2
           go_wp2_with fail
           go_roundg (n - (k + 1))
           case measure => exact rs_meas hgk.out HJ.out
           case rel => exact ⟨k + 1, by first | rfl | rw [wj], hid rfl, hid HJ.out, HT, hB4⟩
      · rw [decide_eq_false hb1]
        have HD := hid (HBAD.out fun e => hb1 e.2.1)
        clear hb1
        go_wp2
        go_ret
        exact ⟨by rw [HD.out]; rfl, HB3.out⟩
    · rw [decide_eq_false hb0]
      have HD := hid (HBAD.out fun e => hb0 e.1)
      clear hb0
      go_wp2
      go_ret
      exact ⟨by rw [HD.out]; rfl, HB2.out⟩
  · have hjn : j = n := by have := hj.out; omega
    subst hjn
    have j2 : ¬ (j : Int) < (j : Int) := fun e => absurd e (Int.lt_irrefl _)
    have HD := hid (rr_all HLN.out hP.out)
    obtain ⟨q, hq⟩ : ∃ q, q = decide (j ≤ 1000) := ⟨_, rfl⟩
    have e1 : decide ((j : Int) ≤ 1000) = q := by rw [hq]; exact decide_eq_decide.2 ⟨fun h => by omega, fun h => by omega⟩
    have e2 : decide (j ≤ 1000) = q := hq.symm
    rw [e2] at HD
    clear hge hj hgk hq
    go_wp2
    go_ret
    exact ⟨by rw [HD.out]; rfl, hB.out⟩
theorem rd_info : (Tryz.prog.info? 5).map (fun i => (i.zero, i.size, i.bytes)) = some (some (.int .u8 0), 1, 1) := by kernel_rfl
section
variable {op : Oper} {a : Act} {w : World} {K : Act → World → Prop} {Q : Exit → Act → World → Prop}
theorem rd_run (ty : TypeId) {base : Nat} {A : Option Addr} {n c : Nat} {P : List UInt8} (hown : w.ownsRow base 5 1 (.slice A n c) n (bs P)) {lo hi : Nat} {A2 : Option Addr} {m c2 : Nat} {l : List UInt8} (hb : Bts w lo hi A2 m l) (hn : n + m ≤ 1000000000) (hbase : base ≤ w.heap.size) :
 ∃ A' c' w', (Builtin.append_ #[51, 51] ty #[.slice A n c, .slice A2 m c2]).run Tryz.prog w = .ok (.slice A' (n + m) c') w' ∧ Grew base 5 1 w w' A A' (n + m) c' (bs (P ++ l)) := by
 have h := run_append_L (P := Tryz.prog) w 51 ty 5 (.int .u8 0) 1 1 Tryz.underlying51 rd_info rfl (by decide) base A n c (bs P) hown A2 m c2 (bs l) (by rw [bs_len, hb.len, Nat.mul_one]) (fun h0 => by
  obtain ⟨g, off, e, _, _, hc⟩ := hb.2 h0
  exact ⟨g, off, e, fun j u hu => hc j u hu⟩) (bs_one l) (by omega) (by unfold maxLen; omega) hbase
 rwa [← bs_app] at h
theorem rd_runS (ty : TypeId) {base : Nat} {A : Option Addr} {n c : Nat} {P : List UInt8} (hown : w.ownsRow base 5 1 (.slice A n c) n (bs P)) (l : List UInt8) (hn : n + l.length ≤ 1000000000) (hbase : base ≤ w.heap.size) :
 ∃ A' c' w', (Builtin.append_ #[51, 9] ty #[.slice A n c, .string (str l)]).run Tryz.prog w = .ok (.slice A' (n + l.length) c') w' ∧ w'.ownsRow base 5 1 (.slice A' (n + l.length) c') (n + l.length) (bs (P ++ l)) ∧ n + l.length ≤ c' ∧ w.grownBy w' (A.map (·.block)) := by
 obtain ⟨i, hi, hz0, hz1, hz2⟩ := info_parts rd_info
 obtain ⟨v', w', h1, h2, h3, _⟩ := Lib.run_append_own_string (P := Tryz.prog) w base 51 9 ty 5 i Tryz.underlying51 Tryz.underlying9 hi hz0 hz1 hz2 (.slice A n c) n (bs P) hown (str l) (by rw [str_size]; unfold maxLen; omega) (by rw [str_size]; omega) hbase
 rw [str_size] at h2
 obtain ⟨A', c', rfl, hc'⟩ := own_form h2
 have e : bs P ++ Lib.strCells (str l) = bs (P ++ l) := by rw [bs_app]; rfl
 rw [e] at h2
 have h4 : (Value.slice A n c).ownBlock = A.map (·.block) := by cases A <;> rfl
 rw [h4] at h3
 exact ⟨A', c', w', h1, h2, hc', h3⟩
theorem wp_rdS (s x : Operand) (ho : op.op = .call { callee := .builtin .append, args := #[s, x], argTypes := #[51, 9] }) {vs vx v' : Value} {w' : World} (hs : a.eval s = vs) (hx : a.eval x = vx)
 (hrun : (Builtin.append_ #[51, 9] op.type #[vs, vx]).run Tryz.prog w = .ok v' w') (h : K (a.put op.dst v') w') : op.wp Tryz.prog a w K Q := by
 unfold Oper.wp execOp
 simp only [ho, resolve, invoke, builtin, Sem.run_bind, Sem.run_pure, Result.andThen_ok, List.map_toArray, List.map_cons, List.map_nil, hs, hx, hrun]
 exact h
end
theorem wpList_rd (w : World) {ops : Array Oper} {rest : List Oper} {o : Oper} {a : Act} {Q : Exit → Act → World → Prop} (hgd : o.guard = none) (s x : Operand)
 (ho : o.op = .call { callee := .builtin .append, args := #[s, x], argTypes := #[51, 51] })
 {base : Nat} {A : Option Addr} {n c : Nat} {P : List UInt8} (hs : a.eval s = .slice A n c) (hown : w.ownsRow base 5 1 (.slice A n c) n (bs P)) {lo hi : Nat} {A2 : Option Addr} {m c2 : Nat} {l : List UInt8} (hx : a.eval x = .slice A2 m c2) (hb : Bts w lo hi A2 m l) (hn : n + m ≤ 1000000000) (hbase : base ≤ w.heap.size)
 (h : ∀ A' c' w', Grew base 5 1 w w' A A' (n + m) c' (bs (P ++ l)) → wpList Tryz.prog ops Q rest (a.put o.dst (.slice A' (n + m) c')) w') :
 wpList Tryz.prog ops Q (o :: rest) a w :=
 wpList_plain hgd fun K hK => by
  obtain ⟨A', c', w', hrun, hgr⟩ := rd_run o.type hown hb hn hbase
  exact wp_append_run 51 s x ho _ _ _ hs hx hrun (hK _ _ (h A' c' w' hgr))
def xsB (x : Bb) : List Int := [x.k.t, x.k.c, x.k.e, x.b, x.p.id, x.p.ver, x.sz]
theorem numsB_snoc (xs : List Int) {i : Nat} (hi : i < xs.length) : numsB (xs.take (i + 1)) = numsB (xs.take i) ++ num xs[i] := by
 unfold numsB
 rw [List.take_succ_eq_append_getElem hi, List.flatMap_append]
 show _ ++ (num xs[i] ++ []) = _
 rw [List.append_nil]
theorem xsB_cell {w : World} {b : Nat} {t : TypeId} {x : Bb} (h : Blk w b t #[.int .i64 x.k.t, .int .i64 x.k.c, .int .i64 x.k.e, .int .i64 x.b, .int .i64 x.p.id, .int .i64 x.p.ver, .int .i64 x.sz]) {i : Nat} (hi : i < (xsB x).length) : w.cell? ⟨b, i, none⟩ = some (.int .i64 (xsB x)[i]) := by
 have h7 : i < 7 := hi
 match i, h7 with
 | 0, _ => exact (h.cell 0).trans rfl
 | 1, _ => exact (h.cell 1).trans rfl
 | 2, _ => exact (h.cell 2).trans rfl
 | 3, _ => exact (h.cell 3).trans rfl
 | 4, _ => exact (h.cell 4).trans rfl
 | 5, _ => exact (h.cell 5).trans rfl
 | 6, _ => exact (h.cell 6).trans rfl
theorem xsB_ok {x : Bb} (h : x.wf) {i : Nat} (hi : i < (xsB x).length) : i64ok (xsB x)[i] := by
 obtain ⟨h1, h2, h3, h4, h5, h6⟩ := h
 have h7 : i < 7 := hi
 match i, h7 with
 | 0, _ => exact h2.1
 | 1, _ => exact h2.2.1
 | 2, _ => exact h2.2.2
 | 3, _ => exact h3
 | 4, _ => exact h4
 | 5, _ => exact h5
 | 6, _ => exact h6
theorem w7 {i : Nat} (h : i < 7) : wrap64 ((i : Int) + 1) = ((i + 1 : Nat) : Int) := by unfold wrap64; omega
theorem own_ncR {w : World} {base : Nat} {e : TypeId} {A : Option Addr} {n c : Nat} {xs : List Value} (h : w.ownsRow base e 1 (.slice A n c) n xs) : n ≤ c := by
 obtain ⟨A', c', h1, h2⟩ := own_form h
 injection h1 with _ _ h3
 rw [h3]; exact h2
theorem rdir_c (A : Option Addr) (n c : Nat) (l : List Bb) (w : World) (h : BSl w w.heap.size A n l) (hw : ∀ x ∈ l, x.wf) (hn : ∀ x ∈ l, x.nm.length ≤ 100000) (hl : n ≤ 100000) (hs : (dirB l).length ≤ 100000000) :
 Calls Tryz.prog 40 #[.slice A n c] w (Row w (dirB l)) := by
 have HL := hid h
 have HW := hid hw
 have HNM := hid hn
 have HN := hid hl
 have HLN := hid h.1
 have HSZ := hid hs
 have u1 : IntKind.u64.wrap (n : Int) = (n : Int) := IntWalk.u64_in _ (by omega)
 clear h hw hn hl hs
 go_enter Tryz.func40, Tryz.ntmps40
 go_wp2_with fail
 refine (refNatural_c n n _ (nl _) (by have := HN.out; omega)).mono ?_
 intro e w1 hr
 obtain ⟨A1, m1, c1, rfl, hm1, hc1, ho1, hB1, hb1⟩ := hr.out
 have HO1 : Hid (w1.ownsRow w.heap.size 5 1 (.slice A1 m1 c1) m1 (bs (nat n ++ entsB (l.take 0)))) := hid (by rw [List.take_zero]; show w1.ownsRow _ _ _ _ _ (bs (nat n ++ [])); rw [List.append_nil]; exact ho1)
 have HBL1 := hid hb1
 clear hr hm1 hc1 ho1 hB1 hb1 u1
 go_wp2_with fail
 go_loopg [3, 14] n (fun kk ov iv wr => ∃ (j : Nat) (A' : Option Addr) (m' c' : Nat), ov = .slice A' m' c' ∧ iv = .int .i64 (j : Int) ∧ Hid (kk = n - j) ∧ Hid (j ≤ n) ∧ Hid (wr.ownsRow w.heap.size 5 1 (.slice A' m' c') m' (bs (nat n ++ entsB (l.take j)))) ∧ Hid (Below w.heap.size w wr))
 case atStart => exact ⟨0, A1, m1, c1, rfl, rfl, hid rfl, hid (Nat.zero_le _), HO1, HBL1⟩
 case round =>
  obtain ⟨j, A', m', c', rfl, rfl, hgk, hj, hO, hB⟩ := hrel
  clear HO1 HBL1
  rename World => wr
  rcases Nat.lt_or_ge j n with hlt | hge
  · have HJ := hid hlt
    have hjl : j < l.length := by rw [HLN.out]; exact hlt
    have j1 : (0 : Int) ≤ (j : Int) := Int.natCast_nonneg j
    have j2 : (j : Int) < (n : Int) := Int.ofNat_lt.2 hlt
    have j3 : decide ((j : Int) < (n : Int)) = true := decide_eq_true j2
    have j4 : decide (j < n) = true := decide_eq_true hlt
    have wj : wrap64 ((j : Int) + 1) = ((j + 1 : Nat) : Int) := rs_w HN.out hlt
    obtain ⟨b, off, rfl, hbl, hr⟩ := HL.out.2 j hjl
    have HSN := hid (entsB_snoc hjl)
    have HXW := hid (HW.out _ (List.getElem_mem hjl))
    have HXN := hid (HNM.out _ (List.getElem_mem hjl))
    have HML : Hid (m' ≤ 100000000) := hid (by
     have h1 := hO.out.1
     rw [bs_len, List.length_append] at h1
     have h2 := entsB_le l j
     have h3 := HSZ.out
     unfold dirB at h3
     rw [List.length_append, HLN.out] at h3
     omega)
    generalize l[j] = x at *
    obtain ⟨P, hP⟩ : ∃ P, P = nat n ++ entsB (l.take j) := ⟨_, rfl⟩
    rw [← hP] at hO
    have HPP := hid hP
    clear hP
    obtain ⟨c0, c1', c2, c3, c4, c5, c6, c7, c8, c9, c10⟩ := range11 (rangeAt_keep hr (hB.out.block b hbl))
    have HBX := hid (Blk.new wr 90 #[.string (str x.nm), .int .i64 x.k.t, .int .i64 x.k.c, .int .i64 x.k.e, .int .i64 x.b, .int .i64 x.p.k.t, .int .i64 x.p.k.c, .int .i64 x.p.k.e, .int .i64 x.p.id, .int .i64 x.p.ver, .int .i64 x.sz])
    have hbx : Below wr.heap.size wr (wr.alloc (.cells #[.string (str x.nm), .int .i64 x.k.t, .int .i64 x.k.c, .int .i64 x.k.e, .int .i64 x.b, .int .i64 x.p.k.t, .int .i64 x.p.k.c, .int .i64 x.p.k.e, .int .i64 x.p.id, .int .i64 x.p.ver, .int .i64 x.sz] 90)) := (Below.refl _ _).alloc (nl _) _
    have HB2 : Hid (Below w.heap.size w (wr.alloc (.cells #[.string (str x.nm), .int .i64 x.k.t, .int .i64 x.k.c, .int .i64 x.k.e, .int .i64 x.b, .int .i64 x.p.k.t, .int .i64 x.p.k.c, .int .i64 x.p.k.e, .int .i64 x.p.id, .int .i64 x.p.ver, .int .i64 x.sz] 90))) := hid (hB.out.trans (hbx.mono hB.out.size))
    have HO2 := hid (World.ownsRow.below hO.out hbx)
    have HAL : Hid (∀ d, A'.map (·.block) = some d → d ≠ wr.heap.size) := hid (fun d hd e => by have := own_lt hO.out d hd; rw [e] at this; exact absurd this (Nat.lt_irrefl _))
    have x0 := (HBX.out.cell 0).trans rfl
    have u2 : IntKind.u64.wrap ((x.nm.length : Nat) : Int) = ((x.nm.length : Nat) : Int) := IntWalk.u64_in _ (by have := HXN.out; omega)
    have hsz0 := str_size x.nm
    clear hlt hjl hbl hr hbx
    go_wp2_with fail
    clear c0 c1' c2 c3 c4 c5 c6 c7 c8 c9 c10
    have hd2 := (Below.refl (wr.alloc (.cells #[.string (str x.nm), .int .i64 x.k.t, .int .i64 x.k.c, .int .i64 x.k.e, .int .i64 x.b, .int .i64 x.p.k.t, .int .i64 x.p.k.c, .int .i64 x.p.k.e, .int .i64 x.p.id, .int .i64 x.p.ver, .int .i64 x.sz] 90)).heap.size (wr.alloc (.cells #[.string (str x.nm), .int .i64 x.k.t, .int .i64 x.k.c, .int .i64 x.k.e, .int .i64 x.b, .int .i64 x.p.k.t, .int .i64 x.p.k.c, .int .i64 x.p.k.e, .int .i64 x.p.id, .int .i64 x.p.ver, .int .i64 x.sz] 90))).drew
    have HO2d := hid (World.ownsRow.below HO2.out hd2)
    have HB2d := hid (HB2.out.drew)
    have HBX2 := hid (HBX.out.keep (hd2.block _ HBX.out.lt))
    clear hd2 HO2 HB2 HBX
    refine wp_region_held_drew (S := fun wx => wx.cell? ⟨wr.heap.size, 0, none⟩ = some (.string (str x.nm))) (by kernel_rfl) ((HBX2.out.cell 0).trans rfl) (fun HS => ?_)
    refine qT 0 ?v0 ?y0 HS ?r0
    case y0 => refine qI fun wS hSw => ?_; go_simp; try with_reducible rfl
    try simp only [Act.put, zA]
    refine qT 1 ?v1 ?y1 HS ?r1
    case y1 => refine qI fun wS hSw => ?_; go_simp; try with_reducible rfl
    try simp only [Act.put, zA]
    refine qT 2 ?v2 ?y2 HS ?r2
    case y2 =>
     refine qI fun wS hSw => ?_
     have z0 := hSw
     go_simp
     try with_reducible rfl
    try simp only [Act.put, zA]
    refine qT 3 ?v3 ?y3 HS ?r3
    case y3 => refine qI fun wS hSw => ?_; go_simp; try with_reducible rfl
    try simp only [Act.put, zA]
    refine qT 4 ?v4 ?y4 HS ?r4
    case y4 => refine qI fun wS hSw => ?_; go_simp; try with_reducible rfl
    try simp only [Act.put, zA]
    refine qT 7 ?v7 ?y7 HS ?r7
    case y7 => refine qI fun wS hSw => ?_; go_simp; try with_reducible rfl
    try simp only [Act.put, zA]
    refine qT 8 ?v8 ?y8 HS ?r8
    case y8 =>
     refine qI fun wS hSw => ?_
     have z0 := hSw
     go_simp
     try with_reducible rfl
    try simp only [Act.put, zA]
    refine qR 5 fun K hK => ?_
    go_simp
    refine (refNatural_c x.nm.length x.nm.length _ (nl _) (by have := HXN.out; omega)).mono ?_
    intro e w3 hr3
    obtain ⟨A3, m3, c3, rfl, hm3, hc3, ho3, hB3, hb3⟩ := hr3.out
    have HO3 := hid (World.ownsRow.below HO2d.out hb3)
    have HB3 := hid (HB2d.out.trans (hb3.mono HB2d.out.size))
    have HBX3 := hid (HBX2.out.keep (hb3.block _ HBX2.out.lt))
    have HM3 : Hid (m3 ≤ 10) := hid (by have := hm3.out; have := nat_len_u64 HXW.out.1; omega)
    have HT3 := hid hB3
    clear hr3 hm3 hc3 ho3 hB3 hb3
    refine hK.out _ _ ((HBX3.out.cell 0).trans rfl) (fun HS => ?_)
    clear hK K
    try simp only [Act.put, zA]
    refine qR 6 fun K hK => ?_
    obtain ⟨A4, c4, w4, hrun4, hgr4⟩ := rd_run 51 HO3.out HT3.out (by have := HML.out; have := HM3.out; omega) HB3.out.size
    refine wp_append_run 51 _ _ rfl _ _ _ rfl rfl hrun4 ?_
    have HO4 := hid hgr4.1
    have HB4 := hid (HB3.out.trans (grown_below hgr4.2.2.1 HB3.out.size fun d hd => own_ge HO3.out d hd))
    have HBX4 := hid (HBX3.out.keep (hgr4.2.2.1.block _ HBX3.out.lt (fun e => HAL.out _ e.symm rfl)))
    have HAL4 : Hid (∀ d, A4.map (·.block) = some d → d ≠ wr.heap.size) := hid (fun d hd => by
     rcases hgr4.2.2.2 d hd with e | e
     · exact HAL.out d e
     · rw [e]; exact Nat.ne_of_gt HBX3.out.lt)
    clear hgr4 hrun4
    refine hK.out _ _ ((HBX4.out.cell 0).trans rfl) (fun HS => ?_)
    clear hK K
    try simp only [Act.put, zA]
    refine qR 9 fun K hK => ?_
    obtain ⟨A5, c5, w5, hrun5, ho5, -, hg5⟩ := rd_runS 51 HO4.out x.nm (by have := HML.out; have := HM3.out; have := HXN.out; omega) HB4.out.size
    refine wp_rdS _ _ rfl rfl rfl hrun5 ?_
    have HO5 := hid ho5
    have HB5 := hid (HB4.out.trans (grown_below hg5 HB4.out.size fun d hd => own_ge HO4.out d hd))
    have HBX5 := hid (HBX4.out.keep (hg5.block _ HBX4.out.lt (fun e => HAL4.out _ e.symm rfl)))
    clear ho5 hg5 hrun5
    refine hK.out _ _ ((HBX5.out.cell 0).trans rfl) (fun HS => ?_)
    clear hK K
    try simp only [Act.put, zA]
    refine qT 10 ?v10 ?y10 HS ?r10
    case y10 => refine qI fun wS hSw => ?_; go_simp; try with_reducible rfl
    try simp only [Act.put, zA]
    refine qD ?_
    have HENT : Hid (nat n ++ entsB (l.take (j + 1)) = nat n ++ entsB (l.take j) ++ (nat x.nm.length ++ x.nm) ++ numsB (xsB x)) := hid (by rw [HSN.out]; unfold entB txtB xsB; simp only [List.append_assoc])
    have HLP : Hid (m' + m3 + x.nm.length ≤ 100200000) := hid (by have := HML.out; have := HM3.out; have := HXN.out; omega)
    have HA5 : Hid (∀ d, A5.map (·.block) = some d → d < w5.heap.size) := hid (fun d hd => own_lt HO5.out d hd)
    obtain ⟨x0, x1, x2, x3, x4, x5, x6, x7, x8, x9, x10⟩ := bbB_cells (x := x) HBX5.out
    clear HS HO2d HB2d HBX2 HO3 HB3 HBX3 HT3 HO4 HB4 HBX4 HAL4 HAL
    go_wp2_with fail
    clear x0 x1 x2 x3 x4 x5 x6 x7 x8 x9 x10
    have HQ6 := hid (Blk.new w5 3 #[.int .i64 x.k.t, .int .i64 x.k.c, .int .i64 x.k.e, .int .i64 x.b, .int .i64 x.p.id, .int .i64 x.p.ver, .int .i64 x.sz])
    have hq6 : Below w5.heap.size w5 (w5.alloc (.cells #[.int .i64 x.k.t, .int .i64 x.k.c, .int .i64 x.k.e, .int .i64 x.b, .int .i64 x.p.id, .int .i64 x.p.ver, .int .i64 x.sz] 3)) := (Below.refl _ _).alloc (nl _) _
    have HO6 := hid (World.ownsRow.below HO5.out hq6)
    have HB6 := hid (HB5.out.trans (hq6.mono HB5.out.size))
    have HA6 : Hid (∀ d, A5.map (·.block) = some d → d ≠ w5.heap.size) := hid (fun d hd => Nat.ne_of_lt (HA5.out d hd))
    clear hq6 HO5 HB5 HBX5 HA5
    generalize w5.heap.size = qb at *
    generalize w5.alloc (.cells #[.int .i64 x.k.t, .int .i64 x.k.c, .int .i64 x.k.e, .int .i64 x.b, .int .i64 x.p.id, .int .i64 x.p.ver, .int .i64 x.sz] 3) = w6 at *
    have HO6' : Hid (w6.ownsRow w.heap.size 5 1 (.slice A5 (m' + m3 + x.nm.length) c5) (m' + m3 + x.nm.length) (bs (nat n ++ entsB (l.take j) ++ (nat x.nm.length ++ x.nm) ++ numsB ((xsB x).take 0)))) := hid (by
     have := HO6.out
     rw [List.take_zero]
     show w6.ownsRow _ _ _ _ _ (bs (_ ++ []))
     rw [List.append_nil]
     rw [HPP.out] at this
     simpa only [List.append_assoc] using this)
    generalize nat n ++ entsB (l.take j) ++ (nat x.nm.length ++ x.nm) = PP at *
    go_loopg [3, 49] 7 (fun k2 ov iv wq => ∃ (i : Nat) (A6 : Option Addr) (m6 c6 : Nat), ov = .slice A6 m6 c6 ∧ iv = .int .i64 (i : Int) ∧ Hid (k2 = 7 - i) ∧ Hid (i ≤ 7) ∧ Hid (m6 ≤ 100200000 + 10 * i) ∧ Hid (∀ d, A6.map (·.block) = some d → d ≠ qb) ∧ Hid (Blk wq qb 3 #[.int .i64 x.k.t, .int .i64 x.k.c, .int .i64 x.k.e, .int .i64 x.b, .int .i64 x.p.id, .int .i64 x.p.ver, .int .i64 x.sz]) ∧ Hid (wq.ownsRow w.heap.size 5 1 (.slice A6 m6 c6) m6 (bs (PP ++ numsB ((xsB x).take i)))) ∧ Hid (Below w.heap.size w wq))
    case atStart => exact ⟨0, A5, _, c5, rfl, rfl, hid rfl, hid (Nat.zero_le _), HLP, HA6, HQ6, HO6', HB6⟩
    case round =>
    obtain ⟨i, A6, m6, c6, rfl, rfl, hgk2, hi, hm6, hA6, hQ, hO7, hB7⟩ := hrel
    clear HO6 HO6' HB6 HQ6 HA6
    rename World => wq
    rcases Nat.lt_or_ge i 7 with hlt2 | hge2
    · have HI7 := hid hlt2
      have hix : i < (xsB x).length := hlt2
      have i1 : (0 : Int) ≤ (i : Int) := Int.natCast_nonneg i
      have i2 : (i : Int) < 7 := by omega
      have i3 : decide ((i : Int) < 7) = true := decide_eq_true i2
      have i4 : decide (i < 7) = true := decide_eq_true hlt2
      have wi := w7 hlt2
      have hcell := xsB_cell hQ.out hix
      have HSN2 := hid (numsB_snoc (xsB x) hix)
      have HZ := hid (xsB_ok HXW.out hix)
      generalize (xsB x)[i] = z at *
      clear hlt2 hix
      go_wp2_with fail
      refine (refFolded_c z _ HZ.out.1 HZ.out.2).mono ?_
      rintro e w0 ⟨rfl, rfl⟩
      go_wp2_with fail
      refine (refNatural_c (fold z) (fold z) _ (nl _) (fold_lt HZ.out.1 HZ.out.2)).mono ?_
      intro e w8 hr8
      obtain ⟨A8, m8, c8, rfl, hm8, hc8, ho8, hB8, hb8⟩ := hr8.out
      have HM8 : Hid (m8 ≤ 10) := hid (by have := hm8.out; have := nat_len_u64 (fold_lt HZ.out.1 HZ.out.2); omega)
      have HO8 := hid (World.ownsRow.below hO7.out hb8)
      have HB8 := hid (hB7.out.trans (hb8.mono hB7.out.size))
      have HQ8 := hid (hQ.out.keep (hb8.block _ hQ.out.lt))
      have HT8 := hid hB8
      clear hr8 hm8 hc8 ho8 hB8 hb8 hcell hO7 hB7 hQ
      go_wp2_with (at_builtin; refine wpList_rd w8 rfl _ _ rfl rfl HO8.out rfl HT8.out (by have := hm6.out; have := HM8.out; have := HI7.out; omega) HB8.out.size ?_)
      intro A9 c9 w9 hgr9
      have HO9 : Hid (w9.ownsRow w.heap.size 5 1 (.slice A9 (m6 + m8) c9) (m6 + m8) (bs (PP ++ numsB ((xsB x).take (i + 1))))) := hid (by have := hgr9.1; rw [HSN2.out]; exact this)
      have HB9 := hid (HB8.out.trans (grown_below hgr9.2.2.1 HB8.out.size fun d hd => own_ge HO8.out d hd))
      have HQ9 := hid (HQ8.out.keep (hgr9.2.2.1.block _ HQ8.out.lt (fun e => hA6.out _ e.symm rfl)))
      have HA9 : Hid (∀ d, A9.map (·.block) = some d → d ≠ qb) := hid (fun d hd => by
       rcases hgr9.2.2.2 d hd with e | e
       · exact hA6.out d e
       · rw [e]; exact Nat.ne_of_gt HQ8.out.lt)
      have HM9 : Hid (m6 + m8 ≤ 100200000 + 10 * (i + 1)) := hid (by have := hm6.out; have := HM8.out; omega)
      clear hgr9 HO8 HB8 HQ8 HT8
      go_wp2_with fail
      go_roundg (7 - (i + 1))
      case measure => exact rs_meas hgk2.out HI7.out
      case rel => exact ⟨i + 1, A9, m6 + m8, c9, rfl, by first | rfl | rw [wi], hid rfl, hid HI7.out, HM9, HA9, HQ9, HO9, HB9⟩
    · have hi7 : i = 7 := by have := hi.out; omega
      subst hi7
      have HO10 : Hid (wq.ownsRow w.heap.size 5 1 (.slice A6 m6 c6) m6 (bs (nat n ++ entsB (l.take (j + 1))))) := hid (by rw [HENT.out]; have := hO7.out; rwa [show (xsB x).take 7 = xsB x from rfl] at this)
      clear hge2 hi hgk2
      go_wp2_with fail
      go_roundg (n - (j + 1))
      case measure => exact rs_meas hgk.out HJ.out
      case rel => exact ⟨j + 1, A6, m6, c6, rfl, by first | rfl | rw [wj], hid rfl, hid HJ.out, HO10, hB7⟩
  · have hjn : j = n := by have := hj.out; omega
    subst hjn
    have j2 : ¬ (j : Int) < (j : Int) := fun e => absurd e (Int.lt_irrefl _)
    have HE : Hid (nat j ++ entsB (l.take j) = dirB l) := hid (by unfold dirB; rw [List.take_of_length_le (Nat.le_of_eq HLN.out), HLN.out])
    clear hge hj hgk
    go_wp2
    go_ret
    have ho := hO.out
    rw [HE.out] at ho
    have hm : (dirB l).length = m' := by have := ho.1; rw [bs_len] at this; omega
    subst hm
    exact ⟨A', c', rfl, own_ncR ho, ho, hB.out⟩
open Go.ChangeShapes Go.WideShapes Go.ChangeAt Go.RowKit
end Go.Proofs.YtolaojkcofbkhaaGreat
