/- What float.Parse returns: the float whose text it is. -/
import Derived.Test.YtfjpnkchldjjmaaGreatDoorFlPu
import Derived.Test.YtfjpnkchldjjmaaGreatDoorFlPr
namespace Go.Proofs.YtfjpnkchldjjmaaGreatDoor
open Go.RowKit

def UPost (w : World) (l : List UInt8) (e : Ending) (w' : World) : Prop :=
  Below w.heap.size w w' ∧ ((∃ v : Nat, px l = some v ∧ e = .returned (.tuple #[.int .u64 (v : Int), .nilIface])) ∨ (px l = none ∧ ∃ (x : Int) (te : TypeId) (pe : Value), e = .returned (.tuple #[.int .u64 x, .iface te pe])))
theorem parseUint_c (s : ByteArray) (hlim : s.size ≤ 281474976710656) (w : World) (hw : Lw w) :
    Calls Tryz.prog 90 #[.string s, .int .i64 16, .int .i64 64] w (UPost w s.data.toList) := by
  have HW := hid hw
  clear hw
  go_enter Tryz.func90, Tryz.ntmps90
  go_wp2_with fail
  refine (pu16_c s (by omega) w).mono ?_
  rintro e w1 ⟨hb, ⟨v, hv, rfl⟩ | ⟨hn, x, k, hk, rfl⟩⟩
  · go_wp2
    go_ret2
    exact ⟨hb, .inl ⟨v, hv, rfl⟩⟩
  · have hw1 := HW.out.below hb
    obtain ⟨_, _, ⟨te, pe, h3⟩, ⟨te2, pe2, h4⟩⟩ := hw1
    have HN := hid hn
    clear hn
    rcases hk with rfl | rfl
    · go_wp2_with fail
      refine (Tryz.strconv_toError_range _ s 16 64 _ w1 hlim h4 (.inr ⟨_, _, rfl⟩)).mono ?_
      rintro e w2 ⟨N, rfl, _, _, hb2⟩
      have hb3 := hb.trans (hb2.mono hb.size)
      go_wp2
      go_ret2
      exact ⟨hb3, .inr ⟨HN.out, x, _, _, rfl⟩⟩
    · go_wp2_with fail
      refine (Tryz.strconv_toError_syntax _ s 16 64 _ w1 hlim h3 (.inr ⟨_, _, rfl⟩)).mono ?_
      rintro e w2 ⟨N, rfl, _, _, hb2⟩
      have hb3 := hb.trans (hb2.mono hb.size)
      go_wp2
      go_ret2
      exact ⟨hb3, .inr ⟨HN.out, x, _, _, rfl⟩⟩

def RPost (w : World) (l : List UInt8) (e : Ending) (w' : World) : Prop :=
  Below w.heap.size w w' ∧ ((∃ v : Nat, frd l = some v ∧ e = .returned (.tuple #[.int .u64 (v : Int), .bool true])) ∨ (frd l = none ∧ ∃ (x : Int), e = .returned (.tuple #[.int .u64 x, .bool false])))
theorem atoi_mk (m : List UInt8) : Lib.atoiAll (ByteArray.mk m.toArray).data.toList = Lib.atoiAll m := by simp
theorem infP_c (w : World) : Calls Tryz.prog 89 #[.int .i64 1] w fun e w' => e = .returned (.float .f64 9218868437227405312) ∧ w = w' := by
  have hfb : ∀ w, (callFunc 55 #[.int .u64 9218868437227405312]).run Tryz.prog w = .ok (.value (.float .f64 9218868437227405312)) w := fun w => frombits 9218868437227405312 w
  go_enter Tryz.func89, Tryz.ntmps89
  go_wp2
  go_ret
  exact ⟨rfl, rfl⟩
theorem infN_c (w : World) : Calls Tryz.prog 89 #[.int .i64 (-1)] w fun e w' => e = .returned (.float .f64 18442240474082181120) ∧ w = w' := by
  have hfb : ∀ w, (callFunc 55 #[.int .u64 18442240474082181120]).run Tryz.prog w = .ok (.value (.float .f64 18442240474082181120)) w := fun w => frombits 18442240474082181120 w
  go_enter Tryz.func89, Tryz.ntmps89
  go_wp2
  go_ret
  exact ⟨rfl, rfl⟩

theorem read_c (l : List UInt8) (hlim : l.length ≤ 281474976710656) (w : World) (hw : Lw w) :
    Calls Tryz.prog 74 #[.string (str l)] w (RPost w l) := by
  have HW := hid hw
  clear hw
  have HLIM := hid hlim
  clear hlim
  have htb := tobits
  have g1 : ∀ t : List UInt8, ((str l).toList == t) = decide (l = t) := fun t => by rw [str_list, Bool.eq_iff_iff]; simp
  by_cases h1 : l = tNan
  · have q1 : decide (l = [110, 97, 110]) = true := decide_eq_true (show l = [110, 97, 110] from h1)
    have HR : Hid (frd l = some 9221120237041090560) := hid (by rw [h1]; decide)
    clear h1
    go_enter Tryz.func74, Tryz.ntmps74
    go_wp2
    go_ret2
    exact ⟨Below.refl _ _, .inl ⟨_, HR.out, rfl⟩⟩
  have q1 : decide (l = [110, 97, 110]) = false := decide_eq_false (show ¬ l = [110, 97, 110] from h1)
  by_cases h2 : l = tInf
  · have q2 : decide (l = [105, 110, 102]) = true := decide_eq_true (show l = [105, 110, 102] from h2)
    have HR : Hid (frd l = some 9218868437227405312) := hid (by rw [h2]; decide)
    clear h1 h2
    go_enter Tryz.func74, Tryz.ntmps74
    go_wp2_with fail
    refine (infP_c w).mono ?_
    rintro e w' ⟨rfl, rfl⟩
    go_wp2
    go_ret2
    exact ⟨Below.refl _ _, .inl ⟨_, HR.out, rfl⟩⟩
  have q2 : decide (l = [105, 110, 102]) = false := decide_eq_false (show ¬ l = [105, 110, 102] from h2)
  by_cases h3 : l = tNinf
  · have q3 : decide (l = [45, 105, 110, 102]) = true := decide_eq_true (show l = [45, 105, 110, 102] from h3)
    have HR : Hid (frd l = some 18442240474082181120) := hid (by rw [h3]; decide)
    clear h1 h2 h3
    go_enter Tryz.func74, Tryz.ntmps74
    go_wp2_with fail
    refine (infN_c w).mono ?_
    rintro e w' ⟨rfl, rfl⟩
    go_wp2
    go_ret2
    exact ⟨Below.refl _ _, .inl ⟨_, HR.out, rfl⟩⟩
  have q3 : decide (l = [45, 105, 110, 102]) = false := decide_eq_false (show ¬ l = [45, 105, 110, 102] from h3)
  by_cases h4 : l = tNz
  · have q4 : decide (l = [45, 48, 46]) = true := decide_eq_true (show l = [45, 48, 46] from h4)
    have HR : Hid (frd l = some 9223372036854775808) := hid (by rw [h4]; decide)
    clear h1 h2 h3 h4
    go_enter Tryz.func74, Tryz.ntmps74
    go_wp2
    go_ret2
    exact ⟨Below.refl _ _, .inl ⟨_, HR.out, rfl⟩⟩
  have q4 : decide (l = [45, 48, 46]) = false := decide_eq_false (show ¬ l = [45, 48, 46] from h4)
  have HRD : Hid (frd l = _) := hid ((if_neg h1).trans ((if_neg h2).trans ((if_neg h3).trans (if_neg h4))))
  clear h1 h2 h3 h4
  cases hp : Lib.hasPrefix l [48, 120]
  · rw [hp] at HRD
    cases hs : Lib.hasSuffix l [46]
    · rw [hs] at HRD
      go_enter Tryz.func74, Tryz.ntmps74
      go_wp2_with fail
      refine (Tryz.strings_CutPrefix _ _ w).mono ?_
      rintro e w' ⟨rfl, rfl⟩
      rw [str_data, show (ByteArray.mk #[48, 120]).data.toList = [48, 120] from rfl, hp]
      go_wp2_with fail
      refine (Tryz.strings_CutSuffix _ _ w' (by rw [str_size]; have := HLIM.out; omega)).mono ?_
      rintro e w'' ⟨rfl, rfl⟩
      rw [str_data, show (ByteArray.mk #[46]).data.toList = [46] from rfl, hs]
      go_wp2
      go_ret2
      exact ⟨Below.refl _ _, .inr ⟨HRD.out, _, rfl⟩⟩
    · rw [hs] at HRD
      obtain ⟨m, hm⟩ : ∃ m, m = Lib.trimSuffix l [46] := ⟨_, rfl⟩
      rw [← hm] at HRD
      have hml : m.length ≤ 281474976710656 := by
        have := HLIM.out
        rw [hm]; unfold Lib.trimSuffix; split <;> simp <;> omega
      have HM := hid hm
      clear hm
      go_enter Tryz.func74, Tryz.ntmps74
      go_wp2_with fail
      refine (Tryz.strings_CutPrefix _ _ w).mono ?_
      rintro e w' ⟨rfl, rfl⟩
      rw [str_data, show (ByteArray.mk #[48, 120]).data.toList = [48, 120] from rfl, hp]
      go_wp2_with fail
      refine (Tryz.strings_CutSuffix _ _ w' (by rw [str_size]; have := HLIM.out; omega)).mono ?_
      rintro e w'' ⟨rfl, rfl⟩
      rw [str_data, show (ByteArray.mk #[46]).data.toList = [46] from rfl, hs, ← HM.out]
      have hsz : ByteArray.size ⟨m.toArray⟩ ≤ 281474976710656 := by show m.toArray.size ≤ _; simpa using hml
      cases hA : Lib.atoiAll m
      · rename_i n
        rw [hA] at HRD
        have HA := hid hA
        clear hA
        go_wp2_with fail
        refine (Tryz.strconv_Atoi_ok ⟨m.toArray⟩ (by omega) n ((atoi_mk m).trans HA.out) w'').mono ?_
        rintro e w2 ⟨rfl, hw2⟩
        have hb : Below w''.heap.size w'' w2 := by
          rcases hw2 with rfl | ⟨t, rfl⟩
          · exact Below.refl _ _
          · exact Lib.bytesWorld_below _ _ _
        clear hw2 hsz hml
        go_wp2_with fail
        refine (fromInt_c n w2).mono ?_
        rintro e w3 ⟨rfl, rfl⟩
        cases hr : inRange n
        · have HR : Hid (frd l = none) := hid (by rw [HRD.out]; simp only [atOk, hr]; rfl)
          clear HRD
          go_wp2
          go_ret2
          exact ⟨hb, .inr ⟨HR.out, _, rfl⟩⟩
        · have HR : Hid (frd l = some (fFrom n)) := hid (by rw [HRD.out, fFrom_is hr]; simp only [atOk, hr]; rfl)
          clear HRD
          go_wp2
          go_ret2
          exact ⟨hb, .inl ⟨_, HR.out, rfl⟩⟩
      · rw [hA] at HRD
        have HA := hid hA
        clear hA
        have HR : Hid (frd l = none) := hid HRD.out
        clear HRD
        obtain ⟨_, _, ⟨te, pe, h3⟩, _⟩ := HW.out
        go_wp2_with fail
        refine (Any.strconv_Atoi_syntax Tryz.laysC172 ⟨m.toArray⟩ hsz ((atoi_mk m).trans HA.out) _ w'' h3 (.inr ⟨_, _, rfl⟩)).mono ?_
        rintro e w2 ⟨N, rfl, _, _, hb⟩
        clear hsz hml
        go_wp2
        go_ret2
        exact ⟨hb, .inr ⟨HR.out, _, rfl⟩⟩
      · rw [hA] at HRD
        have HA := hid hA
        clear hA
        have HR : Hid (frd l = none) := hid HRD.out
        clear HRD
        obtain ⟨_, _, _, ⟨te, pe, h3⟩⟩ := HW.out
        go_wp2_with fail
        refine (Any.strconv_Atoi_range Tryz.laysC172 ⟨m.toArray⟩ hsz ((atoi_mk m).trans HA.out) _ w'' h3 (.inr ⟨_, _, rfl⟩)).mono ?_
        rintro e w2 ⟨N, rfl, _, _, hb⟩
        clear hsz hml
        go_wp2
        go_ret2
        exact ⟨hb, .inr ⟨HR.out, _, rfl⟩⟩
  · rw [hp] at HRD
    obtain ⟨m, hm⟩ : ∃ m, m = Lib.trimPrefix l [48, 120] := ⟨_, rfl⟩
    rw [← hm] at HRD
    have hml : m.length ≤ 281474976710656 := by
      have := HLIM.out
      rw [hm]; unfold Lib.trimPrefix; split <;> simp <;> omega
    have HM := hid hm
    clear hm
    go_enter Tryz.func74, Tryz.ntmps74
    go_wp2_with fail
    refine (Tryz.strings_CutPrefix _ _ w).mono ?_
    rintro e w' ⟨rfl, rfl⟩
    rw [str_data, show (ByteArray.mk #[48, 120]).data.toList = [48, 120] from rfl, hp, ← HM.out]
    have hsz : ByteArray.size ⟨m.toArray⟩ ≤ 281474976710656 := by show m.toArray.size ≤ _; simpa using hml
    go_wp2_with fail
    refine (parseUint_c ⟨m.toArray⟩ hsz w' HW.out).mono ?_
    have hat : (ByteArray.mk m.toArray).data.toList = m := by simp
    rw [hat]
    rintro e w2 ⟨hb, ⟨v, hv, rfl⟩ | ⟨hn, x, te, pe, rfl⟩⟩
    · have HR : Hid (frd l = some v) := hid (HRD.out.trans hv)
      clear HRD hv hat hsz hml
      go_wp2_with fail
      go_region
      go_wp2
      go_ret2
      exact ⟨hb.drew, .inl ⟨_, HR.out, rfl⟩⟩
    · have HR : Hid (frd l = none) := hid (HRD.out.trans hn)
      clear HRD hn hat hsz hml
      go_wp2_with fail
      go_region
      go_wp2
      go_ret2
      exact ⟨hb.drew, .inr ⟨HR.out, _, rfl⟩⟩

theorem parse_c (l : List UInt8) (hlim : l.length ≤ 281474976710656) (w : World) (hw : Lw w) :
    Calls Tryz.prog 59 #[.string (str l)] w fun e w' => e = .returned (.tuple #[.int .u64 (((fParse l).getD 0 : Nat) : Int), .bool (fParse l).isSome]) ∧ Below w.heap.size w w' := by
  have HW := hid hw
  clear hw
  obtain ⟨p, hp⟩ : ∃ p, p = fParse l := ⟨_, rfl⟩
  rw [← hp]
  have HP := hid hp
  clear hp
  go_enter Tryz.func59, Tryz.ntmps59
  go_wp2_with fail
  refine (read_c l hlim w HW.out).mono ?_
  rintro e w1 ⟨hb, ⟨v, hv, rfl⟩ | ⟨hn, x, rfl⟩⟩
  · have hw1 := HW.out.below hb
    have hvl := frd_lt hv
    have HV := hid hv
    clear hv
    go_wp2_with fail
    refine (print_c v hvl w1 hw1).mono ?_
    rintro e w2 ⟨rfl, hb2⟩
    have hb3 := hb.trans (hb2.mono hb.size)
    by_cases he : fPrint v = l
    · have HR : Hid (p = some v) := hid (by rw [HP.out]; unfold fParse; rw [HV.out]; exact if_pos he)
      have d1 : ((str (fPrint v)).toList == (str l).toList) = true := by rw [str_list, str_list]; simpa using he
      clear he
      go_wp2
      go_ret2
      exact ⟨by rw [HR.out]; rfl, hb3⟩
    · have HR : Hid (p = none) := hid (by rw [HP.out]; unfold fParse; rw [HV.out]; exact if_neg he)
      have d1 : ((str (fPrint v)).toList == (str l).toList) = false := by rw [str_list, str_list]; simpa using he
      clear he
      go_wp2
      go_ret2
      exact ⟨by rw [HR.out]; rfl, hb3⟩
  · have HR : Hid (p = none) := hid (by rw [HP.out]; unfold fParse; rw [hn])
    clear hn
    go_wp2
    go_ret2
    exact ⟨by rw [HR.out]; rfl, hb⟩
end Go.Proofs.YtfjpnkchldjjmaaGreatDoor
