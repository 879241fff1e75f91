/- What value.read and value.Parse return: the value whose text it is. -/
import Derived.Test.YtfjpnkchldjjmaaGreatDoorVlPr
import Derived.Test.YtfjpnkchldjjmaaGreatDoorVlAtoi
import Derived.Test.YtfjpnkchldjjmaaGreatDoorFlRd
namespace Go.Proofs.YtfjpnkchldjjmaaGreatDoor
open Go.RowKit

def RdP (l : List UInt8) (w : World) (e : Ending) (w' : World) : Prop :=
  ∃ (v : Vl) (ok : Bool), e = .returned (.tuple #[(.agg #[.int .i64 (vk v), .int .i64 (vn v), .string (str (vs v)), .int .u64 ((vf v : Nat) : Int)]), .bool ok]) ∧ Below w.heap.size w w' ∧ VR l v ok
theorem pre_x {l : List UInt8} (h : Lib.hasPrefix l [120] = true) : l = 120 :: Lib.trimPrefix l [120] := by
  cases l with
  | nil => simp [Lib.hasPrefix] at h
  | cons c r =>
    simp [Lib.hasPrefix] at h
    subst h
    simp [Lib.trimPrefix, Lib.hasPrefix]
theorem pre_no {l : List UInt8} (h : Lib.hasPrefix l [120] = false) : l.head? ≠ some 120 := by
  cases l with
  | nil => simp
  | cons c r =>
    intro e
    simp at e
    subst e
    simp [Lib.hasPrefix] at h

theorem str_e : str [] = ⟨#[]⟩ := rfl
theorem bytes_bel {w w2 : World} {t : TypeId} (h : w2 = w ∨ ∃ s, w2 = Lib.bytesWorld w t s) : Below w.heap.size w w2 := by
  rcases h with rfl | ⟨s, rfl⟩
  · exact Below.refl _ _
  · exact Lib.bytesWorld_below _ _ _
set_option maxRecDepth 20000 in
set_option maxHeartbeats 2000000 in
theorem vread_c (l : List UInt8) (hlim : l.length ≤ 281474976710656) (w : World) (hw : Lw w) :
    Calls Tryz.prog 40 #[.string (str l)] w (RdP l w) := by
  have HW := hid hw
  have HLIM := hid hlim
  clear hw hlim
  have g1 : ∀ t : List UInt8, ((str l).toList == t) = decide (l = t) := fun t => by rw [str_list, Bool.eq_iff_iff]; simp
  by_cases h1 : l = tNull
  · have q1 : decide (l = [110, 117, 108, 108]) = true := decide_eq_true (show l = [110, 117, 108, 108] from h1)
    have HR : Hid (VR l vNull true) := hid (vr_word (by decide) rfl (.inl rfl) h1.symm)
    clear h1
    go_enter Tryz.func40, Tryz.ntmps40
    go_wp2
    refine bodyPost_ret (v := .tuple #[(.agg #[.int .i64 (0), .int .i64 (0), .string (str ([])), .int .u64 ((0 : Nat) : Int)]), .bool true]) (by simp [results, Tryz.results40, go_sem, str]) rfl ?_
    exact ⟨vNull, true, rfl, bel1 _ _, HR.out⟩
  have q1 : decide (l = [110, 117, 108, 108]) = false := decide_eq_false (show ¬ l = [110, 117, 108, 108] from h1)
  by_cases h2 : l = tFalse
  · have q2 : decide (l = [102, 97, 108, 115, 101]) = true := decide_eq_true (show l = [102, 97, 108, 115, 101] from h2)
    have HR : Hid (VR l (2, 0, [], 0) true) := hid (vr_word (by decide) rfl (.inl rfl) h2.symm)
    clear h1 h2
    go_enter Tryz.func40, Tryz.ntmps40
    go_wp2
    refine bodyPost_ret (v := .tuple #[(.agg #[.int .i64 (2), .int .i64 (0), .string (str ([])), .int .u64 ((0 : Nat) : Int)]), .bool true]) (by simp [results, Tryz.results40, go_sem, str]) rfl ?_
    exact ⟨(2, 0, [], 0), true, rfl, bel1 _ _, HR.out⟩
  have q2 : decide (l = [102, 97, 108, 115, 101]) = false := decide_eq_false (show ¬ l = [102, 97, 108, 115, 101] from h2)
  by_cases h3 : l = tTrue
  · have q3 : decide (l = [116, 114, 117, 101]) = true := decide_eq_true (show l = [116, 114, 117, 101] from h3)
    have HR : Hid (VR l (2, 1, [], 0) true) := hid (vr_word (by decide) rfl (.inr rfl) h3.symm)
    clear h1 h2 h3
    go_enter Tryz.func40, Tryz.ntmps40
    go_wp2
    refine bodyPost_ret (v := .tuple #[(.agg #[.int .i64 (2), .int .i64 (1), .string (str ([])), .int .u64 ((0 : Nat) : Int)]), .bool true]) (by simp [results, Tryz.results40, go_sem, str]) rfl ?_
    exact ⟨(2, 1, [], 0), true, rfl, bel1 _ _, HR.out⟩
  have q3 : decide (l = [116, 114, 117, 101]) = false := decide_eq_false (show ¬ l = [116, 114, 117, 101] from h3)
  cases hp : Lib.hasPrefix l [120]
  · have HH := hid (pre_no hp)
    have HL := hid (And.intro h1 (And.intro h2 h3))
    clear h1 h2 h3
    cases hA : Lib.atoiAll l
    · rename_i n
      have HR : Hid (VR l (1, n, [], 0) true) := hid (vr_int HL.out.1 HL.out.2.1 HL.out.2.2 HH.out hA)
      have HA := hid hA
      clear hA
      go_enter Tryz.func40, Tryz.ntmps40
      go_wp2_with fail
      refine (Tryz.strings_CutPrefix _ _ _).mono ?_
      rintro e w1 ⟨rfl, rfl⟩
      rw [str_data, show (ByteArray.mk #[120]).data.toList = [120] from rfl, hp]
      go_wp2_with fail
      refine (Tryz.strconv_Atoi_ok (str l) (by rw [str_size]; have := HLIM.out; omega) n (by rw [str_data]; exact HA.out) _).mono ?_
      rintro e w2 ⟨rfl, hw2⟩
      have hb := bytes_bel hw2
      obtain ⟨p0, p1, p2, p3, pf⟩ := ((Blk.new w 26 _).bel hb (by simp)).v4
      have hbel := (bel1 w _).trans (hb.mono (by simp))
      clear hw2 hb
      go_wp2
      refine bodyPost_ret (v := .tuple #[(.agg #[.int .i64 (1), .int .i64 (n), .string (str ([])), .int .u64 ((0 : Nat) : Int)]), .bool true]) (by simp [results, Tryz.results40, go_sem, p0, p1, p2, p3, str]) rfl ?_
      exact ⟨(1, n, [], 0), true, rfl, bel4 hbel (Nat.le_refl _) _ _ _ _, HR.out⟩
    · have HR : Hid (VR l (4, 0, [], (fParse l).getD 0) (fParse l).isSome) := hid (vr_float HL.out.1 HL.out.2.1 HL.out.2.2 HH.out (fun n e => by rw [hA] at e; cases e))
      have HA := hid hA
      clear hA
      have HLW := hid (HW.out.below (bel1 w (.cells #[.int .i64 0, .int .i64 0, .string ⟨#[]⟩, .int .u64 0] 26)))
      obtain ⟨_, _, ⟨te, pe, h3⟩, _⟩ := HLW.out
      go_enter Tryz.func40, Tryz.ntmps40
      go_wp2_with fail
      refine (Tryz.strings_CutPrefix _ _ _).mono ?_
      rintro e w1 ⟨rfl, rfl⟩
      rw [str_data, show (ByteArray.mk #[120]).data.toList = [120] from rfl, hp]
      go_wp2_with fail
      refine (Any.strconv_Atoi_syntax Tryz.laysC172 (str l) (by rw [str_size]; exact HLIM.out) (by rw [str_data]; exact HA.out) _ _ h3 (.inr ⟨_, _, rfl⟩)).mono ?_
      rintro e w2 ⟨N, rfl, _, _, hb⟩
      have hbel := (bel1 w _).trans (hb.mono (by simp))
      have hB := (Blk.new w 26 _).bel hb (by simp)
      clear hb
      go_wp2_with fail
      refine (parse_c l HLIM.out _ (HW.out.below hbel)).mono ?_
      rintro e w3 ⟨rfl, hb3⟩
      have hB3 := hB.bel hb3 hB.lt
      have hbel3 := hbel.trans (hb3.mono hbel.size)
      obtain ⟨p0, p1, p2, p3, pf⟩ := Blk.v4 hB3
      clear hB hB3 hb3 hbel h3
      generalize (fParse l).getD 0 = u at *
      generalize (fParse l).isSome = ok at *
      go_wp2
      refine bodyPost_ret (v := .tuple #[(.agg #[.int .i64 (4), .int .i64 (0), .string (str ([])), .int .u64 ((u : Nat) : Int)]), .bool ok]) (by simp [results, Tryz.results40, go_sem, p0, p1, p2, p3, str]) rfl ?_
      exact ⟨(4, 0, [], u), ok, rfl, bel4 hbel3 (Nat.le_refl _) _ _ _ _, HR.out⟩
    · have HR : Hid (VR l (4, 0, [], (fParse l).getD 0) (fParse l).isSome) := hid (vr_float HL.out.1 HL.out.2.1 HL.out.2.2 HH.out (fun n e => by rw [hA] at e; cases e))
      have HA := hid hA
      clear hA
      have HLW := hid (HW.out.below (bel1 w (.cells #[.int .i64 0, .int .i64 0, .string ⟨#[]⟩, .int .u64 0] 26)))
      obtain ⟨_, _, _, ⟨te, pe, h3⟩⟩ := HLW.out
      go_enter Tryz.func40, Tryz.ntmps40
      go_wp2_with fail
      refine (Tryz.strings_CutPrefix _ _ _).mono ?_
      rintro e w1 ⟨rfl, rfl⟩
      rw [str_data, show (ByteArray.mk #[120]).data.toList = [120] from rfl, hp]
      go_wp2_with fail
      refine (Any.strconv_Atoi_range Tryz.laysC172 (str l) (by rw [str_size]; exact HLIM.out) (by rw [str_data]; exact HA.out) _ _ h3 (.inr ⟨_, _, rfl⟩)).mono ?_
      rintro e w2 ⟨N, rfl, _, _, hb⟩
      have hbel := (bel1 w _).trans (hb.mono (by simp))
      have hB := (Blk.new w 26 _).bel hb (by simp)
      clear hb
      go_wp2_with fail
      refine (parse_c l HLIM.out _ (HW.out.below hbel)).mono ?_
      rintro e w3 ⟨rfl, hb3⟩
      have hB3 := hB.bel hb3 hB.lt
      have hbel3 := hbel.trans (hb3.mono hbel.size)
      obtain ⟨p0, p1, p2, p3, pf⟩ := Blk.v4 hB3
      clear hB hB3 hb3 hbel h3
      generalize (fParse l).getD 0 = u at *
      generalize (fParse l).isSome = ok at *
      go_wp2
      refine bodyPost_ret (v := .tuple #[(.agg #[.int .i64 (4), .int .i64 (0), .string (str ([])), .int .u64 ((u : Nat) : Int)]), .bool ok]) (by simp [results, Tryz.results40, go_sem, p0, p1, p2, p3, str]) rfl ?_
      exact ⟨(4, 0, [], u), ok, rfl, bel4 hbel3 (Nat.le_refl _) _ _ _ _, HR.out⟩
  · obtain ⟨m, hm⟩ : ∃ m, m = Lib.trimPrefix l [120] := ⟨_, rfl⟩
    have HM : Hid (l = 120 :: m) := hid (by rw [hm]; exact pre_x hp)
    have hml : m.length ≤ 281474976710656 := by have h := HLIM.out; rw [HM.out] at h; simp at h; omega
    have HT := hid hm
    clear h1 h2 h3 hm
    go_enter Tryz.func40, Tryz.ntmps40
    go_wp2_with fail
    refine (Tryz.strings_CutPrefix _ _ _).mono ?_
    rintro e w1 ⟨rfl, rfl⟩
    rw [str_data, show (ByteArray.mk #[120]).data.toList = [120] from rfl, hp, ← HT.out]
    go_wp2_with fail
    refine (fromHex_c m hml _).mono ?_
    rintro e w2 ⟨hb, ⟨b, rfl, hb1, hb2⟩ | ⟨rfl, hno⟩⟩
    · have HR : Hid (VR l (3, 0, b, 0) true) := hid (by rw [HM.out]; exact vr_bytes hb1 hb2)
      obtain ⟨p0, p1, p2, p3, pf⟩ := ((Blk.new w 26 _).bel hb (by simp)).v4
      have hbel := (bel1 w _).trans (hb.mono (by simp))
      clear hb hb1 hb2
      go_wp2
      refine bodyPost_ret (v := .tuple #[(.agg #[.int .i64 (3), .int .i64 (0), .string (str (b)), .int .u64 ((0 : Nat) : Int)]), .bool true]) (by simp [results, Tryz.results40, go_sem, p0, p1, p2, p3]) rfl ?_
      exact ⟨(3, 0, b, 0), true, rfl, bel4 hbel (Nat.le_refl _) _ _ _ _, HR.out⟩
    · have HR : Hid (VR l (3, 0, [], 0) false) := hid (by rw [HM.out]; exact vr_nobytes hno)
      obtain ⟨p0, p1, p2, p3, pf⟩ := ((Blk.new w 26 _).bel hb (by simp)).v4
      have hbel := (bel1 w _).trans (hb.mono (by simp))
      clear hb hno
      go_wp2
      refine bodyPost_ret (v := .tuple #[(.agg #[.int .i64 (3), .int .i64 (0), .string (str ([])), .int .u64 ((0 : Nat) : Int)]), .bool false]) (by simp [results, Tryz.results40, go_sem, p0, p1, p2, p3]) rfl ?_
      exact ⟨(3, 0, [], 0), false, rfl, bel4 hbel (Nat.le_refl _) _ _ _ _, HR.out⟩

set_option maxRecDepth 20000 in
set_option maxHeartbeats 2000000 in
theorem vparse_c (l : List UInt8) (hlim : l.length ≤ 281474976710656) (w : World) (hw : Lw w) :
    Calls Tryz.prog 14 #[.string (str l)] w fun e w' => e = .returned (.tuple #[(.agg #[.int .i64 (vk ((vP l).getD vNull)), .int .i64 (vn ((vP l).getD vNull)), .string (str (vs ((vP l).getD vNull))), .int .u64 ((vf ((vP l).getD vNull) : Nat) : Int)]), .bool (vP l).isSome]) ∧ Below w.heap.size w w' := by
  have HW := hid hw
  clear hw
  obtain ⟨r, hr⟩ : ∃ r, r = vP l := ⟨_, rfl⟩
  rw [← hr]
  have HP := hid hr
  clear hr
  go_enter Tryz.func14, Tryz.ntmps14
  go_wp2_with fail
  refine (vread_c l hlim _ (HW.out.below (bel1 w _))).mono ?_
  rintro e w2 ⟨v, ok, rfl, hb, hv⟩
  have HV := hid (vr_parse hv)
  have HB := hid (And.intro hv.1 (And.intro hv.2.1 hv.2.2.1))
  have hB := (Blk.new w 26 _).bel hb (by simp)
  have hbel := (bel1 w _).trans (hb.mono (by simp))
  have hB2 := hB.old (.cells #[.int .i64 (vk v), .int .i64 (vn v), .string (str (vs v)), .int .u64 ((vf v : Nat) : Int)] 26)
  have hbel2 := hbel.alloc hbel.size (.cells #[.int .i64 (vk v), .int .i64 (vn v), .string (str (vs v)), .int .u64 ((vf v : Nat) : Int)] 26)
  clear hv hb hlim
  cases ok
  · have HR : Hid (r = none) := hid (by rw [HP.out, HV.out]; exact if_neg (fun c => by cases c.1))
    obtain ⟨p0, p1, p2, p3, pf⟩ := hB2.v4
    clear HP HV HB hB hB2 hbel
    go_wp2
    refine bodyPost_ret (v := .tuple #[(.agg #[.int .i64 (0), .int .i64 (0), .string (str ([])), .int .u64 ((0 : Nat) : Int)]), .bool false]) (by simp [results, Tryz.results14, go_sem, p0, p1, p2, p3, str_e]) rfl ?_
    exact ⟨by rw [HR.out]; rfl, bel4 hbel2 (Nat.le_refl _) _ _ _ _⟩
  · have HLW := hid (HW.out.below hbel2)
    go_wp2_with fail
    refine (vprint_c v HB.out.1 HB.out.2.1 HB.out.2.2 _ HLW.out).mono ?_
    rintro e w3 ⟨rfl, hb3⟩
    obtain ⟨p0, p1, p2, p3, pf⟩ := Blk.v4 (hB2.bel hb3 hB2.lt)
    have hV := (Blk.new w2 26 #[.int .i64 (vk v), .int .i64 (vn v), .string (str (vs v)), .int .u64 ((vf v : Nat) : Int)])
    obtain ⟨q0, q1, q2, q3, qf⟩ := Blk.v4 (hV.bel hb3 hV.lt)
    have hbel3 := hbel2.trans (hb3.mono hbel2.size)
    by_cases he : vPrint v = l
    · have d1 : ((str (vPrint v)).toList == (str l).toList) = true := by rw [str_list, str_list]; simpa using he
      have HR : Hid (r = some v) := hid (by rw [HP.out, HV.out]; exact if_pos ⟨trivial, he⟩)
      clear HP HV HB hB hB2 hbel he hb3 hV hbel2
      go_wp2
      refine bodyPost_ret (v := .tuple #[(.agg #[.int .i64 (vk v), .int .i64 (vn v), .string (str (vs v)), .int .u64 ((vf v : Nat) : Int)]), .bool true]) (by simp [results, Tryz.results14, go_sem, p0, p1, p2, p3]) rfl ?_
      exact ⟨by rw [HR.out]; rfl, bel4 hbel3 (Nat.le_refl _) _ _ _ _⟩
    · have d1 : ((str (vPrint v)).toList == (str l).toList) = false := by rw [str_list, str_list]; simpa using he
      have HR : Hid (r = none) := hid (by rw [HP.out, HV.out]; exact if_neg (fun c => he c.2))
      clear HP HV HB hB hB2 hbel he hb3 hV hbel2
      go_wp2
      refine bodyPost_ret (v := .tuple #[(.agg #[.int .i64 (0), .int .i64 (0), .string (str ([])), .int .u64 ((0 : Nat) : Int)]), .bool false]) (by simp [results, Tryz.results14, go_sem, p0, p1, p2, p3, str_e]) rfl ?_
      exact ⟨by rw [HR.out]; rfl, bel4 hbel3 (Nat.le_refl _) _ _ _ _⟩
end Go.Proofs.YtfjpnkchldjjmaaGreatDoor
